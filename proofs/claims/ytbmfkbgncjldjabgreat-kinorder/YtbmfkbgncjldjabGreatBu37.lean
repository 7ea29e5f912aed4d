/- Texts KOc. -/
import Derived.Test.YtbmfkbgncjldjabGreatBu36
namespace Go.Proofs.YtbmfkbgncjldjabGreat.K
open Go.RowKit Q Q.D

theorem tk {P : Program} {md : Region.Mode} {ops : Array Oper} {Q : Exit → Act → World → Prop} {S : World → Prop} (i : Nat) (oi : Oper) (v : Value) {fuel : Nat} {listed : Array Bool} {a : Act} {w : World} (hi : ops[i]? = some oi) (hQ : ∀ c a w, Q (.panic c) (a.put oi.dst v) w → Q (.panic c) a w) (hy : YieldsIf P ops S oi v a) (hS : S w)
    (h : wpAnyH P md ops Q S fuel (listed.setIfInBounds i true) (a.put oi.dst v) w) (hs : Region.noSelect ops = true := by kernel_rfl) (hf : Region.free md ops listed i = true := by kernel_rfl) (hr : (Region.ready md ops listed).contains i = true := by kernel_rfl) :
    wpAnyH P md ops Q S (fuel + 1) listed a w := wpAnyH_take hi hs hf hr hQ hy hS h
theorem seen_heap {X : Nat → Bool} {w : World} {g : Nat} (h : X g = true) : (seen X w).heap[g]? = w.heap[g]? := by
  unfold seen
  simp only [Array.getElem?_mapIdx]
  cases w.heap[g]? with
  | none => rfl
  | some o => simp [h]
theorem seen_same {X : Nat → Bool} {w : World} {T : TypeId} (h : ∀ g cur, w.heap[g]? = some (.cells cur T (0, 0)) → X g = true) : M.Same T w (seen X w) := fun g cur hg => by rw [seen_heap (h g cur hg)]; exact hg
theorem fr_seen {X : Nat → Bool} {w : World} {pl : Bool} {y : M.FM} {z : Int × Bool} (h : M.FR1 pl w y z) (hs : ∀ (g : Nat) (cur : Array Value), w.heap[g]? = some (.cells cur 9 (0, 0)) → cur[0]? ≠ some (.string objectN) → X g = true) : M.FR1 pl (seen X w) y z := by
  obtain ⟨z1, z2⟩ := z
  obtain ⟨h1, ⟨g, h2, h3⟩, h4⟩ := h
  refine ⟨h1, ⟨g, h2, by rw [seen_heap (hs g _ h3 (by cases pl <;> exact fun e => absurd (Value.string.inj (Option.some.inj e)) (by decide)))]; exact h3⟩, ?_⟩
  cases z2
  · exact h4
  · obtain ⟨g, h5, h6⟩ := h4
    exact ⟨g, h5, by rw [seen_heap (hs g _ h6 (fun e => absurd (Value.string.inj (Option.some.inj e)) (by decide)))]; exact h6⟩
theorem clies_seen {X : Nat → Bool} {w : World} {b : Nat} {r : Array Value} {nm sup : ByteArray} {fs : List (ByteArray × ByteArray × Bool)} {pool : List M.CD} {ms : List (M.BK × M.SG)} (h : M.CLies w b r nm sup fs pool ms) (hT : ∀ T, T ≠ 9 → T ≠ 57 → M.Same T w (seen X w))
    (hs : ∀ (g : Nat) (cur : Array Value), w.heap[g]? = some (.cells cur 9 (0, 0)) → cur[0]? ≠ some (.string objectN) → X g = true) : M.CLies (seen X w) b r nm sup fs pool ms := by
  obtain ⟨vp, vf, vm, e, ⟨h1, h1'⟩, h2, rows, h3, h4, h5⟩ := h
  refine ⟨vp, vf, vm, e, ⟨M.own_same h1 (hT _ (by decide) (by decide)), h1'⟩, ?_, rows, h3, M.own_same h4 (hT _ (by decide) (by decide)), fun j m r hm hr => ?_⟩
  · rcases h2 with h2 | ⟨g, e, hg⟩
    · exact .inl h2
    · exact .inr ⟨g, e, hT _ (by decide) (by decide) _ _ hg⟩
  · obtain ⟨vc, vh, vf, fs, e, k1, k2, k3, k4⟩ := h5 j m r hm hr
    exact ⟨vc, vh, vf, fs, e, M.own_same k1 (hT _ (by decide) (by decide)), M.own_same k2 (hT _ (by decide) (by decide)), M.own_same k3 (hT _ (by decide) (by decide)), k4.1, fun j y z hy hz => fr_seen (k4.2 j y z hy hz) hs⟩
def offX (pk mb : Nat) (v : Value) (n : Nat) (b : Nat) : Bool := offK pk mb v b && decide (b < n)
theorem offX_iff {pk mb n : Nat} {v : Value} {b : Nat} : offX pk mb v n b = true ↔ (b ≠ pk ∧ b ≠ mb ∧ v.ownBlock ≠ some b) ∧ b < n := by unfold offX; rw [Bool.and_eq_true, offK_iff, decide_eq_true_eq]
theorem names_first {n0 : Nat} {w : World} {pk mb : Nat} {v : Value} {R : List Mem} (h : KinO n0 w pk mb v R) {R' : List KD} (hR : R.reverse.map Mem.k = objectK :: R') {g : Nat} (hg : v.ownBlock = some g) : ∃ cur, w.heap[g]? = some (.cells cur 9 (0, 0)) ∧ cur[0]? = some (.string objectN) := by
  have hl : 0 < R.length := by
    have := congrArg List.length hR
    simp at this
    omega
  rcases h.own.2 with ⟨rfl, _⟩ | ⟨g', cap, cur, rfl, _, hc, h1, h2, h3, h4⟩
  · simp [Value.ownBlock] at hg
  · simp [Value.ownBlock] at hg
    subst hg
    refine ⟨cur, hc, ?_⟩
    have e : (nameCells R)[0]? = some (.string objectN) := by
      have : nameCells R = (R.reverse.map Mem.k).map (fun k => .string k.nm) := by simp [nameCells]
      rw [this, hR]
      rfl
    rw [← h4, List.getElem?_take, if_pos (by omega), Array.getElem?_toList] at e
    exact e
theorem asked_view {n0 : Nat} {w : World} {pk mb : Nat} {v : Value} {R : List Mem} (h : KinO n0 w pk mb v R) {R' : List KD} (hR : R.reverse.map Mem.k = objectK :: R') {r : Array Value} (ha : Asked n0 w r) : ∃ k, ClassV (seen (offX pk mb v w.heap.size) w) (.agg r) k := by
  obtain ⟨_, _, ⟨k, hk⟩ | ⟨b, nm, sup, fs, pool, ms, hc, a1, a2, a3, a4⟩⟩ := ha
  · refine ⟨k, ClassV.ext (seen_mono (Nat.le_refl _) (fun b hb hx => ⟨offX_iff.2 ⟨⟨?_, ?_, ?_⟩, hb⟩, rfl⟩)) hk⟩
    · have := h.hpk; simp [old] at hx; omega
    · have := h.hmb; simp [old] at hx; omega
    · intro e; have := (h.own.lt b e).1; simp [old] at hx; omega
  · refine ⟨_, M.class_view (clies_seen hc (fun T h1 h2 => seen_same (fun g cur hg => offX_iff.2 ⟨⟨?_, ?_, ?_⟩, (Array.getElem?_eq_some_iff.1 hg).1⟩)) (fun g cur hg hne => offX_iff.2 ⟨⟨?_, ?_, ?_⟩, (Array.getElem?_eq_some_iff.1 hg).1⟩)) a1 a2 a3 a4⟩
    · rintro rfl
      have hb : _ = _ := h.box
      rw [hb] at hg
      cases hg
      exact h2 rfl
    · rintro rfl
      obtain ⟨es, n, hm, _⟩ := h.map
      rw [hm] at hg
      cases hg
    · intro e
      obtain ⟨cur', hc', _⟩ := names_first h hR e
      rw [hc'] at hg
      cases hg
      exact h1 rfl
    · rintro rfl
      have hb : _ = _ := h.box
      rw [hb] at hg
      cases hg
    · rintro rfl
      obtain ⟨es, n, hm, _⟩ := h.map
      rw [hm] at hg
      cases hg
    · intro e
      obtain ⟨cur', hc', h0⟩ := names_first h hR e
      rw [hc'] at hg
      cases hg
      exact hne h0
theorem nv_up {B B' : Nat} {w w' : World} {v : Value} {l : List Int} (h : M.NV B B w v l) (hb : Below B w w') (hB : B ≤ B') : M.NV B' B' w' v l := by
  obtain ⟨ao, cap, e, hc, hm, hx, hl⟩ := h
  refine ⟨ao, cap, e, hc, hm, hx, ?_⟩
  rcases hl with h | ⟨g, off, e, hg, hp, hl⟩
  · exact .inl h
  · exact .inr ⟨g, off, e, by omega, by omega, fun j x hj => (World.cell?_of_block (a := ⟨g, off + j, none⟩) (hb.block g hg)).trans (hl j x hj)⟩
theorem ext_old {w w1 : World} (h : Below w.heap.size w w1) : Ext w (seen (old w.heap.size) w1) := ⟨by rw [seen_size]; exact h.size, fun p v e => seen_cell.2 ⟨by simpa [old] using World.block_lt_of_cell? _ _ e, (h.cell (World.block_lt_of_cell? _ _ e)).trans e⟩⟩
theorem LAt.cls_ext {w w' : World} {ao : Option Addr} {c : Nat} {ks : List KD} (h : LAt 5 ClsR w ao c ks) (he : Ext w w') : LAt 5 ClsR w' ao c ks := LAt.ext h he (fun _ _ h => ClassV.ext he h)
theorem step_same_k {n0 : Nat} {w w' : World} {pk mb : Nat} {v : Value} {R : List Mem} (h : KinO n0 w pk mb v R) (st : KStep pk mb v w w') {T : TypeId} (h1 : T ≠ 9) (h2 : T ≠ 57) : M.Same T w w' := fun g cur hg => by
  rw [st.block g (Array.getElem?_eq_some_iff.1 hg).1 ?_ ?_ ?_]
  · exact hg
  · rintro rfl
    have hb : _ = _ := h.box
    rw [hb] at hg
    cases hg
    exact h2 rfl
  · rintro rfl
    obtain ⟨es, n, hm, _⟩ := h.map
    rw [hm] at hg
    cases hg
  · intro e
    rcases h.own.2 with ⟨rfl, _⟩ | ⟨g', cap, cur', rfl, _, hc, _⟩
    · simp [Value.ownBlock] at e
    · simp [Value.ownBlock] at e
      subst e
      rw [hc] at hg
      cases hg
      exact h1 rfl
def Cells3 (gn gl i last : Nat) (s z : ByteArray) (W : World) : Prop := W.cell? ⟨gn, i, none⟩ = some (.string s) ∧ W.cell? ⟨gl, 0, none⟩ = some (.string s) ∧ W.cell? ⟨gl, last, none⟩ = some (.string z)
theorem Cells3.below {gn gl i last : Nat} {s z : ByteArray} {W W' : World} (h : Cells3 gn gl i last s z W) (b : Below W.heap.size W W') : Cells3 gn gl i last s z W' := ⟨(b.cell (M.cell_lt h.1)).trans h.1, (b.cell (M.cell_lt h.2.1)).trans h.2.1, (b.cell (M.cell_lt h.2.2)).trans h.2.2⟩
def Cells4 (gn gl gc i j j2 : Nat) (s x y p : ByteArray) (W : World) : Prop := W.cell? ⟨gn, i, none⟩ = some (.string s) ∧ W.cell? ⟨gl, j, none⟩ = some (.string x) ∧ W.cell? ⟨gc, 1, none⟩ = some (.string p) ∧ W.cell? ⟨gl, j2, none⟩ = some (.string y)
theorem Cells4.below {gn gl gc i j j2 : Nat} {s x y p : ByteArray} {W W' : World} (h : Cells4 gn gl gc i j j2 s x y p W) (b : Below W.heap.size W W') : Cells4 gn gl gc i j j2 s x y p W' := ⟨(b.cell (M.cell_lt h.1)).trans h.1, (b.cell (M.cell_lt h.2.1)).trans h.2.1, (b.cell (M.cell_lt h.2.2.1)).trans h.2.2.1, (b.cell (M.cell_lt h.2.2.2)).trans h.2.2.2⟩
theorem nm_cells {w : World} {B : Nat} {v : Value} {l : List ByteArray} (h : w.ownsRow B 9 1 v l.length (l.map Value.string)) : ∃ ao cap, v = .slice ao l.length cap ∧ ∀ (j : Nat) x, l[j]? = some x → ∃ g, ao = some ⟨g, 0, none⟩ ∧ g < w.heap.size ∧ w.cell? ⟨g, j, none⟩ = some (.string x) := by
  by_cases h0 : l.length = 0
  · rcases h.2 with ⟨rfl, _⟩ | ⟨g, cap, cur, rfl, _⟩
    · exact ⟨none, 0, by rw [h0], fun j x hj => by have := (List.getElem?_eq_some_iff.1 hj).1; omega⟩
    · exact ⟨_, cap, rfl, fun j x hj => by have := (List.getElem?_eq_some_iff.1 hj).1; omega⟩
  · obtain ⟨g, cap, rfl⟩ := own_form h (by omega)
    refine ⟨_, cap, rfl, fun j x hj => ⟨g, rfl, (h.lt g rfl).2, ?_⟩⟩
    have hlt := (List.getElem?_eq_some_iff.1 hj).1
    rw [h.cellAt j (by omega), List.getElem?_map, hj]
    rfl
theorem rows_get : ∀ (rows : List (Array Value)) (i : Nat) (r : Array Value) (t : Nat), (∀ r ∈ rows, r.size = 5) → rows[i]? = some r → t < 5 → (rows.flatMap Array.toList)[i * 5 + t]? = r.toList[t]?
  | [], _, _, _, _, h, _ => by simp at h
  | y :: l, 0, x, i, hs, h, hi => by simp at h; subst h; rw [List.flatMap_cons, Nat.zero_mul, Nat.zero_add, List.getElem?_append_left (by have := hs y (by simp); simp; omega)]
  | y :: l, j + 1, x, i, hs, h, hi => by
    have := rows_get l j x i (fun r hr => hs r (by simp [hr])) (by simpa using h) hi
    have hy := hs y (by simp)
    rw [List.flatMap_cons, List.getElem?_append_right (by simp; omega), show (j + 1) * 5 + i - y.toList.length = j * 5 + i by simp; omega]
    exact this
theorem klin_short : ∀ (R : List KD) (s : ByteArray), (klin R s).length ≤ R.length
  | [], _ => by simp [klin]
  | x :: R, s => by
    unfold klin
    split
    · have := klin_short R x.sup
      simp only [List.length_cons]; omega
    · have := klin_short R s
      simp only [List.length_cons]; omega
theorem kfind_mem : ∀ {R : List KD} {k : KD}, KWf R → k ∈ R → kfind R k.nm = some k
  | m :: o, k, hw, h => by
    rcases List.mem_cons.1 h with rfl | h
    · exact kfind_yes rfl
    · rw [kfind_no (fun e => kfind_none hw.1 k h e)]
      exact kfind_mem hw.2.2 h
theorem mfind_of {R : List Mem} {s : ByteArray} {k : KD} (h : kfind (R.map Mem.k) s = some k) : ∃ m, mfind R s = some m ∧ m.k = k := by
  rw [← mfind_k] at h
  obtain ⟨m, h1, h2⟩ := Option.map_eq_some_iff.1 h
  exact ⟨m, h1, h2⟩
theorem ext_off {X : Nat → Bool} {wm wr : World} (hs : wm.heap.size ≤ wr.heap.size) (h : ∀ b, X b = true → wr.heap[b]? = wm.heap[b]?) : Ext (seen X wm) wr := ⟨by rw [seen_size]; exact hs, fun p v e => by
  have := seen_cell.1 e
  exact (World.cell?_of_block (h _ this.1)).trans this.2⟩
def OrderI (n0 pk mb : Nat) (v : Value) (w wm : World) (aoa : Option Addr) (capa : Nat) (rows : List (Array Value)) (vv : Value) (RR : List Mem) (wr : World) : Prop :=
  KinO n0 wr pk mb vv RR ∧ KWf (RR.map Mem.k) ∧ (∀ m ∈ RR, KSm m.k) ∧ RR.length ≤ 32 ∧ (wm.heap.size ≤ wr.heap.size ∧ ∀ b, offX pk mb v wm.heap.size b = true → wr.heap[b]? = wm.heap[b]?) ∧ (∀ g, vv.ownBlock = some g → offX pk mb v wm.heap.size g = false) ∧ wr.ownsRow wm.heap.size 33 5 (.slice aoa rows.length capa) rows.length (rows.flatMap Array.toList) ∧ Below n0 w wr
theorem OrderI.below {n0 pk mb : Nat} {v : Value} {w wm : World} {aoa : Option Addr} {capa : Nat} {rows : List (Array Value)} {vv : Value} {RR : List Mem} {wr w' : World} (h : OrderI n0 pk mb v w wm aoa capa rows vv RR wr) (hb : Below wr.heap.size wr w') (hn : n0 ≤ wr.heap.size) : OrderI n0 pk mb v w wm aoa capa rows vv RR w' := by
  obtain ⟨h1, h2, h3, h4, ⟨h5, h5'⟩, h6, h7, h8⟩ := h
  exact ⟨h1.below hb, h2, h3, h4, ⟨Nat.le_trans h5 hb.size, fun b hx => (hb.block b (by have := (offX_iff.1 hx).2; omega)).trans (h5' b hx)⟩, h6, M.own_same h7 (M.Same.of_below hb), h8.trans (hb.mono hn)⟩
theorem OrderI.add {n0 pk mb : Nat} {v : Value} {w wm : World} {aoa : Option Addr} {capa : Nat} {rows : List (Array Value)} {vv v' : Value} {RR : List Mem} {wr w' : World} {k : KD} {b : Nat} (h : OrderI n0 pk mb v w wm aoa capa rows vv RR wr) (hz : refZ RR k = 0) (hK : KinO n0 w' pk mb v' (⟨k, b⟩ :: RR)) (st : KStep pk mb vv wr w') (hown : ∀ g, v'.ownBlock = some g → vv.ownBlock = some g ∨ wr.heap.size ≤ g) : OrderI n0 pk mb v w wm aoa capa rows v' (⟨k, b⟩ :: RR) w' := by
  obtain ⟨h1, h2, h3, h4, ⟨h5, h5'⟩, h6, h7, h8⟩ := h
  have hz' := hz
  rw [refZ_k] at hz'
  refine ⟨hK, h2.add hz', fun m hm => ?_, by have := (kref_ok hz').2.1; simp at this ⊢; omega, ⟨Nat.le_trans h5 st.size, fun b' hx => ?_⟩, fun g hg => ?_, M.own_same h7 (step_same_k h1 st (by decide) (by decide)), h8.trans (KStep.below h1 st)⟩
  · rcases List.mem_cons.1 hm with rfl | hm
    · exact small_of_right (refZ_zero hz).1
    · exact h3 m hm
  · have hx' := offX_iff.1 hx
    rw [st.block b' (by omega) hx'.1.1 hx'.1.2.1 (fun e => by have := h6 b' e; rw [hx] at this; cases this)]
    exact h5' b' hx
  · rcases hown g hg with e | e
    · exact h6 g e
    · rw [Bool.eq_false_iff]
      intro hx
      have := (offX_iff.1 hx).2
      omega
set_option maxRecDepth 8000 in
set_option maxHeartbeats 20000000 in
theorem order_any (ao : Option Addr) (c : Nat) (ks : List KD) (vr : Value) (rl : List Int) (w : World) (hl : LAt 5 ClsR w ao c ks) (hr : M.NV w.heap.size w.heap.size w vr rl) :
    Calls Tryz.prog 3 #[.slice ao ks.length c, vr] w fun e w' => e = .returned (.bool true) ∧ Below w.heap.size w w' := by
  obtain ⟨aor, capr, rfl⟩ : ∃ ao cap, vr = .slice ao rl.length cap := by obtain ⟨ao, cap, e, _⟩ := hr; exact ⟨ao, cap, e⟩
  have HL := D.hidIt hl
  have HR0 := D.hidIt hr
  clear hl hr
  go_enter Tryz.func3, Tryz.ntmps3
  go_wp2_with fail
  refine (new_any w).mono ?_
  rintro e w1 ⟨pk, mb, v, R, rfl, KO, hR, B1⟩
  have HMO := D.hidIt (more_any w.heap.size ao c ks _ rl w1 B1.size (LAt.cls_ext HL.out (ext_old B1)) (nv_up HR0.out B1 B1.size))
  clear HL HR0
  go_wp2_with fail
  refine HMO.out.mono ?_
  rintro e w2 ⟨wm, va, rows, rfl, bm, b2, hrows, hrl, hask⟩
  have KOm := KO.below bm
  have hR0 : R.reverse.map Mem.k = objectK :: givenK.tail := by rw [hR]; rfl
  have HAV := D.hidIt (fun r hr => asked_view KOm hR0 (hask r hr))
  have H5 : Hid (∀ r ∈ rows, r.size = 5) := fun r hr => (hask r hr).1
  obtain ⟨aoa, capa, rfl⟩ := M.own_slice hrows
  have hR' : R.map Mem.k = givenK.reverse := by rw [← hR, List.map_reverse, List.reverse_reverse]
  have HI0 : Hid (OrderI w.heap.size pk mb v w wm aoa capa rows v R w2) := ⟨KOm.below b2, by rw [hR']; exact kwf_given, small_of_k hR' (fun k hk => given_small k (by simpa using hk)), by have := congrArg List.length hR'; rw [List.length_map] at this; rw [this]; decide, ⟨b2.size, fun b hx => b2.block b (offX_iff.1 hx).2⟩, fun g hg => by
    rw [Bool.eq_false_iff]
    intro hx
    exact (offX_iff.1 hx).1.2.2 hg, hrows, (next B1 bm).trans (b2.mono (Nat.le_trans B1.size bm.size))⟩
  clear hrows hask hR0 KOm KO hR hR' b2 bm HMO B1
  go_wp2_with fail
  go_loopw [7] (fun iv wr => ∃ (i : Nat) (vv : Value) (RR : List Mem), iv = .int .i64 (i : Int) ∧ i ≤ rows.length ∧ OrderI w.heap.size pk mb v w wm aoa capa rows vv RR wr) (fun iv _ => rows.length - (intOf iv).toNat)
  case atStart => exact ⟨0, v, R, rfl, Nat.zero_le _, HI0.out⟩
  case round =>
    clear HI0
    obtain ⟨i, vv, RR, rfl, hi, hI⟩ := hrel
    have HI := D.hidIt hI
    clear hI
    by_cases hlt : i < rows.length
    · have hlt' : (i : Int) < (rows.length : Int) := by omega
      obtain ⟨r, hr⟩ : ∃ r, rows[i]? = some r := ⟨_, List.getElem?_eq_getElem hlt⟩
      obtain ⟨k, hk⟩ := HAV.out r (List.mem_of_getElem? hr)
      have hcv := ClassV.ext (ext_off HI.out.2.2.2.2.1.1 HI.out.2.2.2.2.1.2) hk
      have hcv' := hcv
      obtain ⟨o1, c1, o2, c2, o3, c3, er, _⟩ := hcv'
      cases er
      obtain ⟨ga, capa', ea⟩ := own_form HI.out.2.2.2.2.2.2.1 (by omega)
      cases ea
      have gc : ∀ t u, t < 5 → (#[.string k.nm, .string k.sup, .slice o1 k.pool.length c1, .slice o2 k.fs.length c2, .slice o3 k.ms.length c3] : Array Value).toList[t]? = some u → wr.cell? ⟨ga, i * 5 + t, none⟩ = some u := fun t u ht hu => M.own_cell HI.out.2.2.2.2.2.2.1 (by rw [rows_get rows i _ t H5.out hr ht]; exact hu)
      have d0 : wr.cell? ⟨ga, i * 5, none⟩ = some (.string k.nm) := gc 0 _ (by omega) rfl
      have d1 := gc 1 _ (by omega) rfl
      have d2 := gc 2 _ (by omega) rfl
      have d3 := gc 3 _ (by omega) rfl
      have d4 := gc 4 _ (by omega) rfl
      have A := D.hidIt (add_core w.heap.size wr pk mb vv RR HI.out.1 k _ hcv)
      clear gc hk hcv hr
      go_wp2_with fail
      refine A.out.mono ?_
      rintro e w4 ⟨rfl, hA⟩
      clear A d0 d1 d2 d3 d4
      by_cases hz : refZ RR k = 0
      · rw [if_pos hz] at hA
        obtain ⟨v', bb, KO', st, hown⟩ := hA
        have HI2 := D.hidIt (HI.out.add hz KO' st hown)
        clear KO' st hown hz
        go_wp2
        go_roundw
        case rel => exact ⟨i + 1, _, _, by go_num, by omega, HI2.out⟩
        case measure => simp [intOf]; omega
      · rw [if_neg hz] at hA
        have HI2 := D.hidIt (HI.out.below hA (HI.out.2.2.2.2.2.2.2.2 |> fun h => by have := HI.out.1.hpk; have := HI.out.1.box.lt; omega))
        clear hA hz
        go_wp2
        go_roundw
        case rel => exact ⟨i + 1, _, _, by go_num, by omega, HI2.out⟩
        case measure => simp [intOf]; omega
    · have hlt' : ¬ (i : Int) < (rows.length : Int) := by omega
      obtain ⟨KO, hWf, hSm, hlen, -, -, -, BW⟩ := HI.out
      clear HI HAV H5
      obtain ⟨aon, cn, hvv, V⟩ := KO.view
      have hn0 : w.heap.size ≤ wr.heap.size := BW.size
      clear hvv KO
      generalize wr = W at *
      have N1 := D.hidIt (names_any W pk RR mb aon cn V (by omega))
      have HV := D.hidIt V
      have HWf := D.hidIt hWf
      have HSm := D.hidIt hSm
      have HBW := D.hidIt BW
      clear V hWf hSm BW
      go_wp2_with fail
      refine N1.out.mono ?_
      rintro e w4 ⟨b4, v4, rfl, ho4⟩
      have hnl : (RR.reverse.map fun m => Value.string m.k.nm) = (RR.reverse.map fun m => m.k.nm).map Value.string := by simp
      rw [hnl, show RR.length = (RR.reverse.map fun m => m.k.nm).length by simp] at ho4
      obtain ⟨aoN, capN, rfl, hcN⟩ := nm_cells ho4
      rw [show (RR.reverse.map fun m => m.k.nm).length = RR.length by simp]
      have HCN := D.hidIt hcN
      have HB4 := D.hidIt b4
      clear hcN ho4 hnl N1 b4
      go_wp2_with fail
      go_loopw [9] (fun iv wr => ∃ i : Nat, iv = .int .i64 (i : Int) ∧ i ≤ RR.length ∧ Below w4.heap.size w4 wr) (fun iv _ => RR.length - (intOf iv).toNat)
      case atStart => exact ⟨0, rfl, Nat.zero_le _, Below.refl _ _⟩
      case round =>
        obtain ⟨i, rfl, hi, hBi⟩ := hrel
        have HBI := D.hidIt hBi
        clear hBi
        by_cases hlt : i < RR.length
        · have hlt' : (i : Int) < (RR.length : Int) := by omega
          obtain ⟨m, hm⟩ : ∃ m, RR.reverse[i]? = some m := ⟨_, List.getElem?_eq_getElem (by simpa using hlt)⟩
          have hmem : m.k ∈ RR.map Mem.k := List.mem_map_of_mem (by have := List.mem_of_getElem? hm; simpa using this)
          have hf := kfind_mem HWf.out hmem
          obtain ⟨gn, rfl, hgn, hcell⟩ := HCN.out i m.k.nm (by rw [List.getElem?_map, hm]; rfl)
          have n1 : wr.cell? ⟨gn, i, none⟩ = some (.string m.k.nm) := (HBI.out.cell (p := ⟨gn, i, none⟩) hgn).trans hcell
          obtain ⟨tl, htl⟩ := klin_head hf
          obtain ⟨zz, hzz, hzn⟩ := klin_last HWf.out hf
          generalize m.k.nm = s at *
          have VI := (HV.out.below HB4.out).below HBI.out
          have L5 := D.hidIt (kline_any wr pk RR mb aon cn VI (by omega) s)
          have hLE : nmCells (lin RR s) = ((klin (RR.map Mem.k) s).map KD.nm).map Value.string := by rw [← lin_k]; simp [nmCells]
          have hLN : (lin RR s).length = ((klin (RR.map Mem.k) s).map KD.nm).length := by rw [← lin_k]; simp
          have hLm : ((klin (RR.map Mem.k) s).map KD.nm).length ≤ 1000 := by have := klin_short (RR.map Mem.k) s; simp at this ⊢; omega
          have hpos : 0 < ((klin (RR.map Mem.k) s).map KD.nm).length := by rw [htl]; simp
          have hL0 : ((klin (RR.map Mem.k) s).map KD.nm)[0]? = some s := by rw [htl]; simp; exact (kfind_some hf).1
          have hLz : ((klin (RR.map Mem.k) s).map KD.nm)[((klin (RR.map Mem.k) s).map KD.nm).length - 1]? = some (⟨#[79, 98, 106, 101, 99, 116]⟩ : ByteArray) := by
            rw [List.getLast?_eq_getElem?] at hzz
            rw [List.getElem?_map, List.length_map, hzz]
            show some zz.nm = _
            rw [hzn]; rfl
          have HPU : Hid (∀ (j : Nat) x, ((klin (RR.map Mem.k) s).map KD.nm)[j]? = some x → ∃ k, (klin (RR.map Mem.k) s)[j]? = some k ∧ k.nm = x) := fun j x hj => by
            rw [List.getElem?_map] at hj
            obtain ⟨k, h1, h2⟩ := Option.map_eq_some_iff.1 hj
            exact ⟨k, h1, h2⟩
          have HPV : Hid (∀ (j : Nat) k, (klin (RR.map Mem.k) s)[j]? = some k → ((klin (RR.map Mem.k) s).map KD.nm)[j]? = some k.nm) := fun j k hj => by rw [List.getElem?_map, hj]; rfl
          have hss := ksub_self hf
          rw [hLE, hLN] at L5
          clear hLE hLN hcell htl hzz hzn hmem hm hf
          generalize hLL : (klin (RR.map Mem.k) s).map KD.nm = L at *
          clear hLL
          go_wp2_with fail
          refine L5.out.mono ?_
          rintro e w5 ⟨v5, rfl, ho5, b5⟩
          obtain ⟨aol, capl, rfl, hcl⟩ := nm_cells ho5
          obtain ⟨gl, rfl, hgl, l0⟩ := hcl 0 s hL0
          obtain ⟨gl', egl, _, lz⟩ := hcl (L.length - 1) _ hLz
          cases egl
          have HCL := D.hidIt hcl
          have HS5 : Hid (Cells3 gn gl i (L.length - 1) s ⟨#[79, 98, 106, 101, 99, 116]⟩ w5) := ⟨(b5.cell (M.cell_lt n1)).trans n1, l0, lz⟩
          have HS5d : Hid (Cells3 gn gl i (L.length - 1) s ⟨#[79, 98, 106, 101, 99, 116]⟩ w5.drew) := HS5.out
          have HS6 : Hid (∀ W, Below w5.drew.heap.size w5.drew W → Cells3 gn gl i (L.length - 1) s ⟨#[79, 98, 106, 101, 99, 116]⟩ W) := fun W b => HS5d.out.below b
          have V5 := D.hidIt (VI.below b5)
          have SU : Hid (∀ W, Below w5.heap.size w5 W → Calls Tryz.prog 10 #[.pointer (some ⟨pk, 0, none⟩), .string s, .string s] W fun e w' => e = .returned (.bool true) ∧ Below W.heap.size W w') := fun W b => by
            have := sub_any W pk RR mb aon cn (V5.out.below b) s s
            rw [subB_kk, hss] at this
            exact this
          have HB5 := D.hidIt (next HBI.out b5)
          have hL1 : ((L.length : Int) == 0) = false := by rw [beq_eq_false_iff_ne]; omega
          have hw1 : IntKind.i64.wrap ((L.length : Int) - 1) = (L.length : Int) - 1 := M.wrap_i64 (by omega) (by omega)
          have htn : ((L.length : Int) - 1).toNat = L.length - 1 := by omega
          have hz6 : ((⟨#[79, 98, 106, 101, 99, 116]⟩ : ByteArray).toList != [79, 98, 106, 101, 99, 116]) = false := by rw [Lib.toList_data]; decide
          clear hcl ho5 l0 lz n1 VI L5 hL0 hLz b5 hgl
          go_upto_region 14 with (fail)
          refine wp_region_noPanic ?_
          refine wp_region_held_drew (S := (Cells3 gn gl i (L.length - 1) s ⟨#[79, 98, 106, 101, 99, 116]⟩)) (by kernel_rfl) ?_ (fun hHeld => ?_)
          · (try dsimp only); first | exact HS5.out | exact HS5d.out | exact HS6.out _ (by assumption)
          refine tk 0 ⟨some 46, .move (.tmp 10), 34, "law.go:110", #[], none⟩ (?vq14_1) rfl (fun _ _ _ h => h) (.inl ⟨by rfl, ?yq14_1⟩) (by assumption) ?rq14_1
          case yq14_1 => intro w hSw; go_simp; try with_reducible rfl
          try simp only [Act.put, List.setIfInBounds_toArray, List.set_cons_zero, List.set_cons_succ]
          refine tk 1 ⟨some 47, .call { callee := .builtin .len, args := #[.tmp 46], argTypes := #[34] }, 3, "law.go:110", #[⟨0, .data⟩], none⟩ (?vq14_2) rfl (fun _ _ _ h => h) (.inl ⟨by rfl, ?yq14_2⟩) (by assumption) ?rq14_2
          case yq14_2 => intro w hSw; go_simp; try with_reducible rfl
          try simp only [Act.put, List.setIfInBounds_toArray, List.set_cons_zero, List.set_cons_succ]
          refine tk 2 ⟨some 48, .binOp .eql 3 (.tmp 47) (.const (.int .i64 0)) 3, 4, "law.go:110", #[⟨1, .data⟩], none⟩ (.bool false) rfl (fun _ _ _ h => h) (.inl ⟨by rfl, ?yq14_3⟩) (by assumption) ?rq14_3
          case yq14_3 => intro w hSw; go_simp; first | done | (simp only [hL1])
          try simp only [Act.put, List.setIfInBounds_toArray, List.set_cons_zero, List.set_cons_succ]
          refine tk 3 ⟨some 49, .move (.tmp 48), 4, "law.go:110", #[⟨2, .data⟩], none⟩ (?vq14_4) rfl (fun _ _ _ h => h) (.inl ⟨by rfl, ?yq14_4⟩) (by assumption) ?rq14_4
          case yq14_4 => intro w hSw; go_simp; try with_reducible rfl
          try simp only [Act.put, List.setIfInBounds_toArray, List.set_cons_zero, List.set_cons_succ]
          refine tk 4 ⟨some 50, .move (.tmp 10), 34, "law.go:110", #[⟨3, .guard⟩], some (3, false)⟩ (?vq14_5) rfl (fun _ _ _ h => h) (.inl ⟨by rfl, ?yq14_5⟩) (by assumption) ?rq14_5
          case yq14_5 => intro w hSw; go_simp; try with_reducible rfl
          try simp only [Act.put, List.setIfInBounds_toArray, List.set_cons_zero, List.set_cons_succ]
          refine tk 5 ⟨some 51, .indexAddr 34 (.tmp 50) (.const (.int .i64 0)), 0, "law.go:110", #[⟨4, .data⟩, ⟨3, .guard⟩], some (3, false)⟩ (?vq14_6) rfl (fun _ _ _ h => h) (.inl ⟨by rfl, ?yq14_6⟩) (by assumption) ?rq14_6
          case yq14_6 => intro w hSw; go_simp; try with_reducible rfl
          try simp only [Act.put, List.setIfInBounds_toArray, List.set_cons_zero, List.set_cons_succ]
          refine tk 6 ⟨some 52, .load 9 (.tmp 51), 9, "law.go:110", #[⟨5, .data⟩, ⟨3, .guard⟩], some (3, false)⟩ (?vq14_7) rfl (fun _ _ _ h => h) (.inl ⟨by rfl, ?yq14_7⟩) (by assumption) ?rq14_7
          case yq14_7 => intro w hSw; go_simp; obtain ⟨S1, S2, S3⟩ := hSw; go_simp; try with_reducible rfl
          try simp only [Act.put, List.setIfInBounds_toArray, List.set_cons_zero, List.set_cons_succ]
          refine tk 7 ⟨some 53, .move (.tmp 8), 34, "law.go:110", #[⟨3, .guard⟩], some (3, false)⟩ (?vq14_8) rfl (fun _ _ _ h => h) (.inl ⟨by rfl, ?yq14_8⟩) (by assumption) ?rq14_8
          case yq14_8 => intro w hSw; go_simp; try with_reducible rfl
          try simp only [Act.put, List.setIfInBounds_toArray, List.set_cons_zero, List.set_cons_succ]
          refine tk 8 ⟨some 54, .move (.tmp 9), 3, "law.go:110", #[⟨3, .guard⟩], some (3, false)⟩ (?vq14_9) rfl (fun _ _ _ h => h) (.inl ⟨by rfl, ?yq14_9⟩) (by assumption) ?rq14_9
          case yq14_9 => intro w hSw; go_simp; try with_reducible rfl
          try simp only [Act.put, List.setIfInBounds_toArray, List.set_cons_zero, List.set_cons_succ]
          refine tk 9 ⟨some 55, .indexAddr 34 (.tmp 53) (.tmp 54), 0, "law.go:110", #[⟨7, .data⟩, ⟨8, .data⟩, ⟨3, .guard⟩], some (3, false)⟩ (?vq14_10) rfl (fun _ _ _ h => h) (.inl ⟨by rfl, ?yq14_10⟩) (by assumption) ?rq14_10
          case yq14_10 => intro w hSw; go_simp; try with_reducible rfl
          try simp only [Act.put, List.setIfInBounds_toArray, List.set_cons_zero, List.set_cons_succ]
          refine tk 10 ⟨some 56, .load 9 (.tmp 55), 9, "law.go:110", #[⟨9, .data⟩, ⟨3, .guard⟩], some (3, false)⟩ (?vq14_11) rfl (fun _ _ _ h => h) (.inl ⟨by rfl, ?yq14_11⟩) (by assumption) ?rq14_11
          case yq14_11 => intro w hSw; go_simp; obtain ⟨S1, S2, S3⟩ := hSw; go_simp; try with_reducible rfl
          try simp only [Act.put, List.setIfInBounds_toArray, List.set_cons_zero, List.set_cons_succ]
          refine tk 11 ⟨some 57, .binOp .neq 9 (.tmp 52) (.tmp 56) 9, 4, "law.go:110", #[⟨6, .data⟩, ⟨10, .data⟩, ⟨3, .guard⟩], some (3, false)⟩ (.bool false) rfl (fun _ _ _ h => h) (.inl ⟨by rfl, ?yq14_12⟩) (by assumption) ?rq14_12
          case yq14_12 => intro w hSw; go_simp; first | done | simp
          try simp only [Act.put, List.setIfInBounds_toArray, List.set_cons_zero, List.set_cons_succ]
          refine tk 12 ⟨some 58, .pick (.tmp 49) (.const (.bool true)) (.tmp 57), 4, "law.go:110", #[⟨3, .data⟩, ⟨11, .data⟩], none⟩ (.bool false) rfl (fun _ _ _ h => h) (.inl ⟨by rfl, ?yq14_13⟩) (by assumption) ?rq14_13
          case yq14_13 => intro w hSw; go_simp; try with_reducible rfl
          try simp only [Act.put, List.setIfInBounds_toArray, List.set_cons_zero, List.set_cons_succ]
          refine tk 13 ⟨some 59, .move (.tmp 58), 4, "law.go:110", #[⟨12, .data⟩, ⟨3, .chain⟩], none⟩ (.bool false) rfl (fun _ _ _ h => h) (.inl ⟨by rfl, ?yq14_14⟩) (by assumption) ?rq14_14
          case yq14_14 => intro w hSw; go_simp; try with_reducible rfl
          try simp only [Act.put, List.setIfInBounds_toArray, List.set_cons_zero, List.set_cons_succ]
          refine tk 14 ⟨some 60, .move (.tmp 10), 34, "law.go:110", #[⟨13, .guard⟩], some (13, false)⟩ (?vq14_15) rfl (fun _ _ _ h => h) (.inl ⟨by rfl, ?yq14_15⟩) (by assumption) ?rq14_15
          case yq14_15 => intro w hSw; go_simp; try with_reducible rfl
          try simp only [Act.put, List.setIfInBounds_toArray, List.set_cons_zero, List.set_cons_succ]
          refine tk 15 ⟨some 61, .move (.tmp 10), 34, "law.go:110", #[⟨13, .guard⟩], some (13, false)⟩ (?vq14_16) rfl (fun _ _ _ h => h) (.inl ⟨by rfl, ?yq14_16⟩) (by assumption) ?rq14_16
          case yq14_16 => intro w hSw; go_simp; try with_reducible rfl
          try simp only [Act.put, List.setIfInBounds_toArray, List.set_cons_zero, List.set_cons_succ]
          refine tk 16 ⟨some 62, .call { callee := .builtin .len, args := #[.tmp 61], argTypes := #[34] }, 3, "law.go:110", #[⟨15, .data⟩, ⟨13, .guard⟩], some (13, false)⟩ (?vq14_17) rfl (fun _ _ _ h => h) (.inl ⟨by rfl, ?yq14_17⟩) (by assumption) ?rq14_17
          case yq14_17 => intro w hSw; go_simp; try with_reducible rfl
          try simp only [Act.put, List.setIfInBounds_toArray, List.set_cons_zero, List.set_cons_succ]
          refine tk 17 ⟨some 63, .binOp .sub 3 (.tmp 62) (.const (.int .i64 1)) 3, 3, "law.go:110", #[⟨16, .data⟩, ⟨13, .guard⟩], some (13, false)⟩ (.int .i64 ((L.length : Int) - 1)) rfl (fun _ _ _ h => h) (.inl ⟨by rfl, ?yq14_18⟩) (by assumption) ?rq14_18
          case yq14_18 => intro w hSw; go_simp; first | done | exact hw1 | (simp only [hw1])
          try simp only [Act.put, List.setIfInBounds_toArray, List.set_cons_zero, List.set_cons_succ]
          refine tk 18 ⟨some 64, .indexAddr 34 (.tmp 60) (.tmp 63), 0, "law.go:110", #[⟨14, .data⟩, ⟨17, .data⟩, ⟨13, .guard⟩], some (13, false)⟩ (.pointer (some ⟨gl, L.length - 1, none⟩)) rfl (fun _ _ _ h => h) (.inl ⟨by rfl, ?yq14_19⟩) (by assumption) ?rq14_19
          case yq14_19 => intro w hSw; go_simp; (intro hh; exact absurd (hh (by omega)) (by omega))
          try simp only [Act.put, List.setIfInBounds_toArray, List.set_cons_zero, List.set_cons_succ]
          refine tk 19 ⟨some 65, .load 9 (.tmp 64), 9, "law.go:110", #[⟨18, .data⟩, ⟨13, .guard⟩], some (13, false)⟩ (?vq14_20) rfl (fun _ _ _ h => h) (.inl ⟨by rfl, ?yq14_20⟩) (by assumption) ?rq14_20
          case yq14_20 => intro w hSw; go_simp; obtain ⟨S1, S2, S3⟩ := hSw; go_simp; try with_reducible rfl
          try simp only [Act.put, List.setIfInBounds_toArray, List.set_cons_zero, List.set_cons_succ]
          refine tk 20 ⟨some 66, .binOp .neq 9 (.tmp 65) (.const (.string { data := #[79, 98, 106, 101, 99, 116] })) 9, 4, "law.go:110", #[⟨19, .data⟩, ⟨13, .guard⟩], some (13, false)⟩ (.bool false) rfl (fun _ _ _ h => h) (.inl ⟨by rfl, ?yq14_21⟩) (by assumption) ?rq14_21
          case yq14_21 => intro w hSw; go_simp; first | done | simp only [hz6]
          try simp only [Act.put, List.setIfInBounds_toArray, List.set_cons_zero, List.set_cons_succ]
          refine tk 21 ⟨some 67, .pick (.tmp 59) (.const (.bool true)) (.tmp 66), 4, "law.go:110", #[⟨13, .data⟩, ⟨20, .data⟩], none⟩ (.bool false) rfl (fun _ _ _ h => h) (.inl ⟨by rfl, ?yq14_22⟩) (by assumption) ?rq14_22
          case yq14_22 => intro w hSw; go_simp; try with_reducible rfl
          try simp only [Act.put, List.setIfInBounds_toArray, List.set_cons_zero, List.set_cons_succ]
          refine tk 22 ⟨some 68, .move (.tmp 67), 4, "law.go:110", #[⟨21, .data⟩, ⟨13, .chain⟩], none⟩ (.bool false) rfl (fun _ _ _ h => h) (.inl ⟨by rfl, ?yq14_23⟩) (by assumption) ?rq14_23
          case yq14_23 => intro w hSw; go_simp; try with_reducible rfl
          try simp only [Act.put, List.setIfInBounds_toArray, List.set_cons_zero, List.set_cons_succ]
          refine tk 23 ⟨some 69, .move (.tmp 5), 24, "law.go:110", #[⟨22, .guard⟩], some (22, false)⟩ (?vq14_24) rfl (fun _ _ _ h => h) (.inl ⟨by rfl, ?yq14_24⟩) (by assumption) ?rq14_24
          case yq14_24 => intro w hSw; go_simp; try with_reducible rfl
          try simp only [Act.put, List.setIfInBounds_toArray, List.set_cons_zero, List.set_cons_succ]
          refine tk 24 ⟨some 70, .move (.tmp 8), 34, "law.go:110", #[⟨22, .guard⟩], some (22, false)⟩ (?vq14_25) rfl (fun _ _ _ h => h) (.inl ⟨by rfl, ?yq14_25⟩) (by assumption) ?rq14_25
          case yq14_25 => intro w hSw; go_simp; try with_reducible rfl
          try simp only [Act.put, List.setIfInBounds_toArray, List.set_cons_zero, List.set_cons_succ]
          refine tk 25 ⟨some 71, .move (.tmp 9), 3, "law.go:110", #[⟨22, .guard⟩], some (22, false)⟩ (?vq14_26) rfl (fun _ _ _ h => h) (.inl ⟨by rfl, ?yq14_26⟩) (by assumption) ?rq14_26
          case yq14_26 => intro w hSw; go_simp; try with_reducible rfl
          try simp only [Act.put, List.setIfInBounds_toArray, List.set_cons_zero, List.set_cons_succ]
          refine tk 26 ⟨some 72, .indexAddr 34 (.tmp 70) (.tmp 71), 0, "law.go:110", #[⟨24, .data⟩, ⟨25, .data⟩, ⟨22, .guard⟩], some (22, false)⟩ (?vq14_27) rfl (fun _ _ _ h => h) (.inl ⟨by rfl, ?yq14_27⟩) (by assumption) ?rq14_27
          case yq14_27 => intro w hSw; go_simp; try with_reducible rfl
          try simp only [Act.put, List.setIfInBounds_toArray, List.set_cons_zero, List.set_cons_succ]
          refine tk 27 ⟨some 73, .load 9 (.tmp 72), 9, "law.go:110", #[⟨26, .data⟩, ⟨22, .guard⟩], some (22, false)⟩ (?vq14_28) rfl (fun _ _ _ h => h) (.inl ⟨by rfl, ?yq14_28⟩) (by assumption) ?rq14_28
          case yq14_28 => intro w hSw; go_simp; obtain ⟨S1, S2, S3⟩ := hSw; go_simp; try with_reducible rfl
          try simp only [Act.put, List.setIfInBounds_toArray, List.set_cons_zero, List.set_cons_succ]
          refine tk 28 ⟨some 74, .move (.tmp 8), 34, "law.go:110", #[⟨22, .guard⟩], some (22, false)⟩ (?vq14_29) rfl (fun _ _ _ h => h) (.inl ⟨by rfl, ?yq14_29⟩) (by assumption) ?rq14_29
          case yq14_29 => intro w hSw; go_simp; try with_reducible rfl
          try simp only [Act.put, List.setIfInBounds_toArray, List.set_cons_zero, List.set_cons_succ]
          refine tk 29 ⟨some 75, .move (.tmp 9), 3, "law.go:110", #[⟨22, .guard⟩], some (22, false)⟩ (?vq14_30) rfl (fun _ _ _ h => h) (.inl ⟨by rfl, ?yq14_30⟩) (by assumption) ?rq14_30
          case yq14_30 => intro w hSw; go_simp; try with_reducible rfl
          try simp only [Act.put, List.setIfInBounds_toArray, List.set_cons_zero, List.set_cons_succ]
          refine tk 30 ⟨some 76, .indexAddr 34 (.tmp 74) (.tmp 75), 0, "law.go:110", #[⟨28, .data⟩, ⟨29, .data⟩, ⟨22, .guard⟩], some (22, false)⟩ (?vq14_31) rfl (fun _ _ _ h => h) (.inl ⟨by rfl, ?yq14_31⟩) (by assumption) ?rq14_31
          case yq14_31 => intro w hSw; go_simp; try with_reducible rfl
          try simp only [Act.put, List.setIfInBounds_toArray, List.set_cons_zero, List.set_cons_succ]
          refine tk 31 ⟨some 77, .load 9 (.tmp 76), 9, "law.go:110", #[⟨30, .data⟩, ⟨22, .guard⟩], some (22, false)⟩ (?vq14_32) rfl (fun _ _ _ h => h) (.inl ⟨by rfl, ?yq14_32⟩) (by assumption) ?rq14_32
          case yq14_32 => intro w hSw; go_simp; obtain ⟨S1, S2, S3⟩ := hSw; go_simp; try with_reducible rfl
          try simp only [Act.put, List.setIfInBounds_toArray, List.set_cons_zero, List.set_cons_succ]
          refine wpAnyH_ready (rs := [32]) (by kernel_rfl) (by simp) ?_
          refine AllReadyH.cons (o := ⟨some 78, .call { callee := .value (.func 10), args := #[.tmp 69, .tmp 73, .tmp 77], argTypes := #[24, 9, 9] }, 4, "law.go:110", #[⟨23, .data⟩, ⟨27, .data⟩, ⟨31, .data⟩, ⟨22, .chain⟩, ⟨22, .guard⟩], some (22, false)⟩) rfl (fun K hK => ?_) AllReadyH.nil
          go_simp
          go_at_call 10; refine (SU.out _ (Below.drew (Below.refl _ _))).mono ?_; rintro e w6 ⟨rfl, b6⟩
          try go_wp2_with fail
          refine hK.out _ _ ?hSq14_33 ?restq14_33
          case hSq14_33 => (try dsimp only); first | exact HS5.out | exact HS5d.out | exact HS6.out _ (by assumption)
          clear hK K hHeld
          intro hHeld
          try simp only [Act.put, List.setIfInBounds_toArray, List.set_cons_zero, List.set_cons_succ]
          refine tk 33 ⟨some 79, .unOp .not 4 (.tmp 78), 4, "law.go:110", #[⟨32, .data⟩, ⟨22, .guard⟩], some (22, false)⟩ (?vq14_34) rfl (fun _ _ _ h => h) (.inl ⟨by rfl, ?yq14_34⟩) (by assumption) ?rq14_34
          case yq14_34 => intro w hSw; go_simp; try with_reducible rfl
          try simp only [Act.put, List.setIfInBounds_toArray, List.set_cons_zero, List.set_cons_succ]
          refine tk 34 ⟨some 80, .pick (.tmp 68) (.const (.bool true)) (.tmp 79), 4, "law.go:110", #[⟨22, .data⟩, ⟨33, .data⟩], none⟩ (?vq14_35) rfl (fun _ _ _ h => h) (.inl ⟨by rfl, ?yq14_35⟩) (by assumption) ?rq14_35
          case yq14_35 => intro w hSw; go_simp; try with_reducible rfl
          try simp only [Act.put, List.setIfInBounds_toArray, List.set_cons_zero, List.set_cons_succ]
          refine wpAnyH_done (by kernel_rfl) ?_ _
          refine NoPanic.normal ?_
          have HB6 : Hid (Below w5.heap.size w5 w6) := ⟨b6.os, b6.tape, b6.output, b6.size, b6.block⟩
          have n5 := HS5.out.1
          clear HS5 HS5d HS6 SU b6 hL1 hw1 htn hz6 hHeld
          go_wp2_with fail
          go_loopw [11] (fun jv wr => ∃ j : Nat, jv = .int .i64 (j : Int) ∧ j ≤ L.length ∧ Below w6.heap.size w6 wr) (fun jv _ => L.length - (intOf jv).toNat)
          case atStart => exact ⟨0, rfl, Nat.zero_le _, Below.refl _ _⟩
          case round =>
            obtain ⟨j, rfl, hj, hBj⟩ := hrel
            have HBJ := D.hidIt hBj
            clear hBj
            by_cases hjl : j < L.length
            · have hjl' : (j : Int) < (L.length : Int) := by omega
              obtain ⟨x, hx⟩ : ∃ x, L[j]? = some x := ⟨_, List.getElem?_eq_getElem hjl⟩
              obtain ⟨kx, hkx, hkn⟩ := HPU.out j x hx
              obtain ⟨gl', egl, hglt, lx⟩ := HCL.out j x hx
              cases egl
              have lx6 := (HB6.out.cell (p := ⟨gl, j, none⟩) hglt).trans lx
              have l1 := (HBJ.out.cell (M.cell_lt lx6)).trans lx6
              have n6 := (HB6.out.cell (M.cell_lt n5)).trans n5
              have n7 := (HBJ.out.cell (M.cell_lt n6)).trans n6
              have hfx := klin_find HWf.out (List.mem_of_getElem? hkx)
              rw [hkn] at hfx
              obtain ⟨mm, hmm, hmk⟩ := mfind_of hfx
              have V6 := (V5.out.below HB6.out).below HBJ.out
              have hsx : ksubK (RR.map Mem.k) s x = true := by rw [← hkn]; exact ksub_line (List.mem_of_getElem? hkx)
              have HNX : Hid (∀ y, L[j + 1]? = some y → mm.k.sup = y) := fun y hy => by
                obtain ⟨ky, hky, hyn⟩ := HPU.out (j + 1) y hy
                rw [hmk, ← hyn]
                exact klin_chain HWf.out hkx hky
              have HBK : Hid (0 < j → ksubK (RR.map Mem.k) x s = false) := fun h0 => by
                obtain ⟨j', rfl⟩ : ∃ j', j = j' + 1 := ⟨j - 1, by omega⟩
                rw [← hkn]
                exact ksub_back HWf.out hkx
              have G := D.hidIt (get_any wr pk RR mb aon cn V6 HSm.out x)
              rw [hmm] at G
              clear lx lx6 n6 hglt hmm hmk hkx hkn hfx hx
              go_wp2_with fail
              refine G.out.mono ?_
              rintro e w7 ⟨b7, hG⟩
              obtain ⟨u7, rfl, hcv⟩ := hG
              obtain ⟨o1, c1, o2, c2, o3, c3, rfl, -⟩ := hcv
              clear G
              generalize mm.k.sup = p at *
              generalize mm.k.nm = mn at *
              generalize mm.k.pool.length = lp at *
              generalize mm.k.fs.length = lf at *
              generalize mm.k.ms.length = lm at *
              have HB7 := D.hidIt (next b7 (balloc w7 (.cells #[.string mn, .string p, .slice o1 lp c1, .slice o2 lf c2, .slice o3 lm c3] 33)))
              have q3 := M.cell_row (M.heap_new' (w := w7) (o := .cells #[.string mn, .string p, .slice o1 lp c1, .slice o2 lf c2, .slice o3 lm c3] 33) rfl) 1 (v := .string p) rfl
              have q1 := (HB7.out.cell (M.cell_lt n7)).trans n7
              have q2 := (HB7.out.cell (M.cell_lt l1)).trans l1
              have V7 := D.hidIt (V6.below HB7.out)
              clear V6 b7
              go_upto_region 20 with (fail)
              generalize w7.alloc (.cells #[.string mn, .string p, .slice o1 lp c1, .slice o2 lf c2, .slice o3 lm c3] 33) = WC at *
              generalize w7.heap.size = gc at *
              have SU1 : Hid (∀ W, Below WC.drew.heap.size WC.drew W → Calls Tryz.prog 10 #[.pointer (some ⟨pk, 0, none⟩), .string s, .string x] W fun e w' => e = .returned (.bool true) ∧ Below W.heap.size W w') := fun W b => by
                have := sub_any W pk RR mb aon cn (V7.out.below ⟨b.os, b.tape, b.output, b.size, b.block⟩) s x
                rw [subB_kk, hsx] at this
                exact this
              have hw2 : IntKind.i64.wrap ((j : Int) + 1) = (j : Int) + 1 := M.wrap_i64 (by omega) (by omega)
              by_cases ha : j + 1 < L.length
              · have hj2 : (j : Int) + 1 < (L.length : Int) := by omega
                have hj1 : decide ((j : Int) + 1 < (L.length : Int)) = true := decide_eq_true hj2
                obtain ⟨y, hy⟩ : ∃ y, L[j + 1]? = some y := ⟨_, List.getElem?_eq_getElem ha⟩
                obtain rfl := HNX.out y hy
                obtain ⟨gl', egl, hglt, ly⟩ := HCL.out (j + 1) _ hy
                cases egl
                have ly6 := (HB6.out.cell (p := ⟨gl, j + 1, none⟩) hglt).trans ly
                have ly7 := (HBJ.out.cell (M.cell_lt ly6)).trans ly6
                have q4 := (HB7.out.cell (M.cell_lt ly7)).trans ly7
                clear ly ly6 ly7 hglt hy
                generalize p = y at *
                by_cases hb : 0 < j
                · have hj0 : decide ((0 : Int) < (j : Int)) = true := decide_eq_true (by omega)
                  have hsb := HBK.out hb
                  have SU2 : Hid (∀ W, Below WC.drew.heap.size WC.drew W → Calls Tryz.prog 10 #[.pointer (some ⟨pk, 0, none⟩), .string x, .string s] W fun e w' => e = .returned (.bool false) ∧ Below W.heap.size W w') := fun W b => by
                    have := sub_any W pk RR mb aon cn (V7.out.below ⟨b.os, b.tape, b.output, b.size, b.block⟩) x s
                    rw [subB_kk, hsb] at this
                    exact this
                  have HSA : Hid (Cells4 gn gl gc i j (j + 1) s x y y WC) := ⟨q1, q2, q3, q4⟩
                  have HSAd : Hid (Cells4 gn gl gc i j (j + 1) s x y y WC.drew) := HSA.out
                  have HSB : Hid (∀ W, Below WC.drew.heap.size WC.drew W → Cells4 gn gl gc i j (j + 1) s x y y W) := fun W b => HSAd.out.below b
                  have HSC : Hid (∀ W W', Below WC.drew.heap.size WC.drew W → Below W.heap.size W W' → Cells4 gn gl gc i j (j + 1) s x y y W') := fun W W' b b' => (HSB.out W b).below b'
                  clear q1 q2 q3 q4
                  go_upto_region 20 with (fail)
                  refine wp_region_noPanic ?_
                  refine wp_region_held_drew (S := (Cells4 gn gl gc i j (j + 1) s x y y)) (by kernel_rfl) ?_ (fun hHeld => ?_)
                  · (try dsimp only); first | exact HSA.out | exact HSAd.out | exact HSB.out _ (by assumption) | exact HSC.out _ _ (by assumption) (by assumption)
                  refine tk 0 ⟨some 96, .move (.tmp 13), 4, "law.go:115", #[], none⟩ (?vq20TT_1) rfl (fun _ _ _ h => h) (.inl ⟨by rfl, ?yq20TT_1⟩) (by assumption) ?rq20TT_1
                  case yq20TT_1 => intro w hSw; go_simp; try with_reducible rfl
                  try simp only [Act.put, List.setIfInBounds_toArray, List.set_cons_zero, List.set_cons_succ]
                  refine tk 1 ⟨some 97, .unOp .not 4 (.tmp 96), 4, "law.go:115", #[⟨0, .data⟩], none⟩ (?vq20TT_2) rfl (fun _ _ _ h => h) (.inl ⟨by rfl, ?yq20TT_2⟩) (by assumption) ?rq20TT_2
                  case yq20TT_2 => intro w hSw; go_simp; try with_reducible rfl
                  try simp only [Act.put, List.setIfInBounds_toArray, List.set_cons_zero, List.set_cons_succ]
                  refine tk 2 ⟨some 98, .move (.tmp 97), 4, "law.go:115", #[⟨1, .data⟩], none⟩ (?vq20TT_3) rfl (fun _ _ _ h => h) (.inl ⟨by rfl, ?yq20TT_3⟩) (by assumption) ?rq20TT_3
                  case yq20TT_3 => intro w hSw; go_simp; try with_reducible rfl
                  try simp only [Act.put, List.setIfInBounds_toArray, List.set_cons_zero, List.set_cons_succ]
                  refine tk 3 ⟨some 99, .move (.tmp 5), 24, "law.go:115", #[⟨2, .guard⟩], some (2, false)⟩ (?vq20TT_4) rfl (fun _ _ _ h => h) (.inl ⟨by rfl, ?yq20TT_4⟩) (by assumption) ?rq20TT_4
                  case yq20TT_4 => intro w hSw; go_simp; try with_reducible rfl
                  try simp only [Act.put, List.setIfInBounds_toArray, List.set_cons_zero, List.set_cons_succ]
                  refine tk 4 ⟨some 100, .move (.tmp 8), 34, "law.go:115", #[⟨2, .guard⟩], some (2, false)⟩ (?vq20TT_5) rfl (fun _ _ _ h => h) (.inl ⟨by rfl, ?yq20TT_5⟩) (by assumption) ?rq20TT_5
                  case yq20TT_5 => intro w hSw; go_simp; try with_reducible rfl
                  try simp only [Act.put, List.setIfInBounds_toArray, List.set_cons_zero, List.set_cons_succ]
                  refine tk 5 ⟨some 101, .move (.tmp 9), 3, "law.go:115", #[⟨2, .guard⟩], some (2, false)⟩ (?vq20TT_6) rfl (fun _ _ _ h => h) (.inl ⟨by rfl, ?yq20TT_6⟩) (by assumption) ?rq20TT_6
                  case yq20TT_6 => intro w hSw; go_simp; try with_reducible rfl
                  try simp only [Act.put, List.setIfInBounds_toArray, List.set_cons_zero, List.set_cons_succ]
                  refine tk 6 ⟨some 102, .indexAddr 34 (.tmp 100) (.tmp 101), 0, "law.go:115", #[⟨4, .data⟩, ⟨5, .data⟩, ⟨2, .guard⟩], some (2, false)⟩ (?vq20TT_7) rfl (fun _ _ _ h => h) (.inl ⟨by rfl, ?yq20TT_7⟩) (by assumption) ?rq20TT_7
                  case yq20TT_7 => intro w hSw; go_simp; try with_reducible rfl
                  try simp only [Act.put, List.setIfInBounds_toArray, List.set_cons_zero, List.set_cons_succ]
                  refine tk 7 ⟨some 103, .load 9 (.tmp 102), 9, "law.go:115", #[⟨6, .data⟩, ⟨2, .guard⟩], some (2, false)⟩ (?vq20TT_8) rfl (fun _ _ _ h => h) (.inl ⟨by rfl, ?yq20TT_8⟩) (by assumption) ?rq20TT_8
                  case yq20TT_8 => intro w hSw; go_simp; obtain ⟨S1, S2, S3, S4⟩ := hSw; go_simp; try with_reducible rfl
                  try simp only [Act.put, List.setIfInBounds_toArray, List.set_cons_zero, List.set_cons_succ]
                  refine tk 8 ⟨some 104, .move (.tmp 10), 34, "law.go:115", #[⟨2, .guard⟩], some (2, false)⟩ (?vq20TT_9) rfl (fun _ _ _ h => h) (.inl ⟨by rfl, ?yq20TT_9⟩) (by assumption) ?rq20TT_9
                  case yq20TT_9 => intro w hSw; go_simp; try with_reducible rfl
                  try simp only [Act.put, List.setIfInBounds_toArray, List.set_cons_zero, List.set_cons_succ]
                  refine tk 9 ⟨some 105, .move (.tmp 11), 3, "law.go:115", #[⟨2, .guard⟩], some (2, false)⟩ (?vq20TT_10) rfl (fun _ _ _ h => h) (.inl ⟨by rfl, ?yq20TT_10⟩) (by assumption) ?rq20TT_10
                  case yq20TT_10 => intro w hSw; go_simp; try with_reducible rfl
                  try simp only [Act.put, List.setIfInBounds_toArray, List.set_cons_zero, List.set_cons_succ]
                  refine tk 10 ⟨some 106, .indexAddr 34 (.tmp 104) (.tmp 105), 0, "law.go:115", #[⟨8, .data⟩, ⟨9, .data⟩, ⟨2, .guard⟩], some (2, false)⟩ (?vq20TT_11) rfl (fun _ _ _ h => h) (.inl ⟨by rfl, ?yq20TT_11⟩) (by assumption) ?rq20TT_11
                  case yq20TT_11 => intro w hSw; go_simp; try with_reducible rfl
                  try simp only [Act.put, List.setIfInBounds_toArray, List.set_cons_zero, List.set_cons_succ]
                  refine tk 11 ⟨some 107, .load 9 (.tmp 106), 9, "law.go:115", #[⟨10, .data⟩, ⟨2, .guard⟩], some (2, false)⟩ (?vq20TT_12) rfl (fun _ _ _ h => h) (.inl ⟨by rfl, ?yq20TT_12⟩) (by assumption) ?rq20TT_12
                  case yq20TT_12 => intro w hSw; go_simp; obtain ⟨S1, S2, S3, S4⟩ := hSw; go_simp; try with_reducible rfl
                  try simp only [Act.put, List.setIfInBounds_toArray, List.set_cons_zero, List.set_cons_succ]
                  refine wpAnyH_ready (rs := [12]) (by kernel_rfl) (by simp) ?_
                  refine AllReadyH.cons (o := ⟨some 108, .call { callee := .value (.func 10), args := #[.tmp 99, .tmp 103, .tmp 107], argTypes := #[24, 9, 9] }, 4, "law.go:115", #[⟨3, .data⟩, ⟨7, .data⟩, ⟨11, .data⟩, ⟨2, .chain⟩, ⟨2, .guard⟩], some (2, false)⟩) rfl (fun K hK => ?_) AllReadyH.nil
                  go_simp
                  go_at_call 10; refine (SU1.out _ (Below.refl _ _)).mono ?_; rintro e w8 ⟨rfl, b8⟩
                  try go_wp2_with fail
                  refine hK.out _ _ ?hSq20TT_13 ?restq20TT_13
                  case hSq20TT_13 => (try dsimp only); first | exact HSA.out | exact HSAd.out | exact HSB.out _ (by assumption) | exact HSC.out _ _ (by assumption) (by assumption)
                  clear hK K hHeld
                  intro hHeld
                  try simp only [Act.put, List.setIfInBounds_toArray, List.set_cons_zero, List.set_cons_succ]
                  refine tk 13 ⟨some 109, .unOp .not 4 (.tmp 108), 4, "law.go:115", #[⟨12, .data⟩, ⟨2, .guard⟩], some (2, false)⟩ (?vq20TT_14) rfl (fun _ _ _ h => h) (.inl ⟨by rfl, ?yq20TT_14⟩) (by assumption) ?rq20TT_14
                  case yq20TT_14 => intro w hSw; go_simp; try with_reducible rfl
                  try simp only [Act.put, List.setIfInBounds_toArray, List.set_cons_zero, List.set_cons_succ]
                  refine tk 14 ⟨some 110, .pick (.tmp 98) (.const (.bool true)) (.tmp 109), 4, "law.go:115", #[⟨2, .data⟩, ⟨13, .data⟩], none⟩ (?vq20TT_15) rfl (fun _ _ _ h => h) (.inl ⟨by rfl, ?yq20TT_15⟩) (by assumption) ?rq20TT_15
                  case yq20TT_15 => intro w hSw; go_simp; try with_reducible rfl
                  try simp only [Act.put, List.setIfInBounds_toArray, List.set_cons_zero, List.set_cons_succ]
                  refine tk 15 ⟨some 111, .move (.tmp 110), 4, "law.go:115", #[⟨14, .data⟩, ⟨12, .chain⟩], none⟩ (?vq20TT_16) rfl (fun _ _ _ h => h) (.inl ⟨by rfl, ?yq20TT_16⟩) (by assumption) ?rq20TT_16
                  case yq20TT_16 => intro w hSw; go_simp; try with_reducible rfl
                  try simp only [Act.put, List.setIfInBounds_toArray, List.set_cons_zero, List.set_cons_succ]
                  refine tk 16 ⟨some 112, .move (.tmp 11), 3, "law.go:115", #[⟨15, .guard⟩], some (15, false)⟩ (?vq20TT_17) rfl (fun _ _ _ h => h) (.inl ⟨by rfl, ?yq20TT_17⟩) (by assumption) ?rq20TT_17
                  case yq20TT_17 => intro w hSw; go_simp; try with_reducible rfl
                  try simp only [Act.put, List.setIfInBounds_toArray, List.set_cons_zero, List.set_cons_succ]
                  refine tk 17 ⟨some 113, .binOp .add 3 (.tmp 112) (.const (.int .i64 1)) 3, 3, "law.go:115", #[⟨16, .data⟩, ⟨15, .guard⟩], some (15, false)⟩ (.int .i64 ((j : Int) + 1)) rfl (fun _ _ _ h => h) (.inl ⟨by rfl, ?yq20TT_18⟩) (by assumption) ?rq20TT_18
                  case yq20TT_18 => intro w hSw; go_simp; first | done | exact hw2 | (simp only [hw2])
                  try simp only [Act.put, List.setIfInBounds_toArray, List.set_cons_zero, List.set_cons_succ]
                  refine tk 18 ⟨some 114, .move (.tmp 10), 34, "law.go:115", #[⟨15, .guard⟩], some (15, false)⟩ (?vq20TT_19) rfl (fun _ _ _ h => h) (.inl ⟨by rfl, ?yq20TT_19⟩) (by assumption) ?rq20TT_19
                  case yq20TT_19 => intro w hSw; go_simp; try with_reducible rfl
                  try simp only [Act.put, List.setIfInBounds_toArray, List.set_cons_zero, List.set_cons_succ]
                  refine tk 19 ⟨some 115, .call { callee := .builtin .len, args := #[.tmp 114], argTypes := #[34] }, 3, "law.go:115", #[⟨18, .data⟩, ⟨15, .guard⟩], some (15, false)⟩ (?vq20TT_20) rfl (fun _ _ _ h => h) (.inl ⟨by rfl, ?yq20TT_20⟩) (by assumption) ?rq20TT_20
                  case yq20TT_20 => intro w hSw; go_simp; try with_reducible rfl
                  try simp only [Act.put, List.setIfInBounds_toArray, List.set_cons_zero, List.set_cons_succ]
                  refine tk 20 ⟨some 116, .binOp .lss 3 (.tmp 113) (.tmp 115) 3, 4, "law.go:115", #[⟨17, .data⟩, ⟨19, .data⟩, ⟨15, .guard⟩], some (15, false)⟩ (.bool true) rfl (fun _ _ _ h => h) (.inl ⟨by rfl, ?yq20TT_21⟩) (by assumption) ?rq20TT_21
                  case yq20TT_21 => intro w hSw; go_simp; first | done | (simp only [hj1]) | simp
                  try simp only [Act.put, List.setIfInBounds_toArray, List.set_cons_zero, List.set_cons_succ]
                  refine tk 21 ⟨some 117, .move (.tmp 116), 4, "law.go:115", #[⟨20, .data⟩, ⟨15, .chain⟩, ⟨15, .guard⟩], some (15, false)⟩ (.bool true) rfl (fun _ _ _ h => h) (.inl ⟨by rfl, ?yq20TT_22⟩) (by assumption) ?rq20TT_22
                  case yq20TT_22 => intro w hSw; go_simp; try with_reducible rfl
                  try simp only [Act.put, List.setIfInBounds_toArray, List.set_cons_zero, List.set_cons_succ]
                  refine tk 22 ⟨some 118, .fieldAddr 33 (.tmp 12) 1, 0, "law.go:115", #[⟨21, .guard⟩], some (21, true)⟩ (?vq20TT_23) rfl (fun _ _ _ h => h) (.inl ⟨by rfl, ?yq20TT_23⟩) (by assumption) ?rq20TT_23
                  case yq20TT_23 => intro w hSw; go_simp; try with_reducible rfl
                  try simp only [Act.put, List.setIfInBounds_toArray, List.set_cons_zero, List.set_cons_succ]
                  refine tk 23 ⟨some 119, .load 9 (.tmp 118), 9, "law.go:115", #[⟨22, .data⟩, ⟨21, .guard⟩], some (21, true)⟩ (?vq20TT_24) rfl (fun _ _ _ h => h) (.inl ⟨by rfl, ?yq20TT_24⟩) (by assumption) ?rq20TT_24
                  case yq20TT_24 => intro w hSw; go_simp; obtain ⟨S1, S2, S3, S4⟩ := hSw; go_simp; try with_reducible rfl
                  try simp only [Act.put, List.setIfInBounds_toArray, List.set_cons_zero, List.set_cons_succ]
                  refine tk 24 ⟨some 120, .move (.tmp 10), 34, "law.go:115", #[⟨21, .guard⟩], some (21, true)⟩ (?vq20TT_25) rfl (fun _ _ _ h => h) (.inl ⟨by rfl, ?yq20TT_25⟩) (by assumption) ?rq20TT_25
                  case yq20TT_25 => intro w hSw; go_simp; try with_reducible rfl
                  try simp only [Act.put, List.setIfInBounds_toArray, List.set_cons_zero, List.set_cons_succ]
                  refine tk 25 ⟨some 121, .move (.tmp 11), 3, "law.go:115", #[⟨21, .guard⟩], some (21, true)⟩ (?vq20TT_26) rfl (fun _ _ _ h => h) (.inl ⟨by rfl, ?yq20TT_26⟩) (by assumption) ?rq20TT_26
                  case yq20TT_26 => intro w hSw; go_simp; try with_reducible rfl
                  try simp only [Act.put, List.setIfInBounds_toArray, List.set_cons_zero, List.set_cons_succ]
                  refine tk 26 ⟨some 122, .binOp .add 3 (.tmp 121) (.const (.int .i64 1)) 3, 3, "law.go:115", #[⟨25, .data⟩, ⟨21, .guard⟩], some (21, true)⟩ (.int .i64 ((j : Int) + 1)) rfl (fun _ _ _ h => h) (.inl ⟨by rfl, ?yq20TT_27⟩) (by assumption) ?rq20TT_27
                  case yq20TT_27 => intro w hSw; go_simp; first | done | exact hw2 | (simp only [hw2])
                  try simp only [Act.put, List.setIfInBounds_toArray, List.set_cons_zero, List.set_cons_succ]
                  refine tk 27 ⟨some 123, .indexAddr 34 (.tmp 120) (.tmp 122), 0, "law.go:115", #[⟨24, .data⟩, ⟨26, .data⟩, ⟨21, .guard⟩], some (21, true)⟩ (.pointer (some ⟨gl, j + 1, none⟩)) rfl (fun _ _ _ h => h) (.inl ⟨by rfl, ?yq20TT_28⟩) (by assumption) ?rq20TT_28
                  case yq20TT_28 => intro w hSw; go_simp; (intro hh; exact absurd hh (by omega))
                  try simp only [Act.put, List.setIfInBounds_toArray, List.set_cons_zero, List.set_cons_succ]
                  refine tk 28 ⟨some 124, .load 9 (.tmp 123), 9, "law.go:115", #[⟨27, .data⟩, ⟨21, .guard⟩], some (21, true)⟩ (?vq20TT_29) rfl (fun _ _ _ h => h) (.inl ⟨by rfl, ?yq20TT_29⟩) (by assumption) ?rq20TT_29
                  case yq20TT_29 => intro w hSw; go_simp; obtain ⟨S1, S2, S3, S4⟩ := hSw; go_simp; try with_reducible rfl
                  try simp only [Act.put, List.setIfInBounds_toArray, List.set_cons_zero, List.set_cons_succ]
                  refine tk 29 ⟨some 125, .binOp .neq 9 (.tmp 119) (.tmp 124) 9, 4, "law.go:115", #[⟨23, .data⟩, ⟨28, .data⟩, ⟨21, .guard⟩], some (21, true)⟩ (.bool false) rfl (fun _ _ _ h => h) (.inl ⟨by rfl, ?yq20TT_30⟩) (by assumption) ?rq20TT_30
                  case yq20TT_30 => intro w hSw; go_simp; first | done | simp
                  try simp only [Act.put, List.setIfInBounds_toArray, List.set_cons_zero, List.set_cons_succ]
                  refine tk 30 ⟨some 126, .pick (.tmp 117) (.tmp 125) (.const (.bool false)), 4, "law.go:115", #[⟨21, .data⟩, ⟨29, .data⟩, ⟨15, .guard⟩], some (15, false)⟩ (.bool false) rfl (fun _ _ _ h => h) (.inl ⟨by rfl, ?yq20TT_31⟩) (by assumption) ?rq20TT_31
                  case yq20TT_31 => intro w hSw; go_simp; try with_reducible rfl
                  try simp only [Act.put, List.setIfInBounds_toArray, List.set_cons_zero, List.set_cons_succ]
                  refine tk 31 ⟨some 127, .pick (.tmp 111) (.const (.bool true)) (.tmp 126), 4, "law.go:115", #[⟨15, .data⟩, ⟨30, .data⟩], none⟩ (.bool false) rfl (fun _ _ _ h => h) (.inl ⟨by rfl, ?yq20TT_32⟩) (by assumption) ?rq20TT_32
                  case yq20TT_32 => intro w hSw; go_simp; try with_reducible rfl
                  try simp only [Act.put, List.setIfInBounds_toArray, List.set_cons_zero, List.set_cons_succ]
                  refine tk 32 ⟨some 128, .move (.tmp 127), 4, "law.go:115", #[⟨31, .data⟩, ⟨21, .chain⟩], none⟩ (.bool false) rfl (fun _ _ _ h => h) (.inl ⟨by rfl, ?yq20TT_33⟩) (by assumption) ?rq20TT_33
                  case yq20TT_33 => intro w hSw; go_simp; try with_reducible rfl
                  try simp only [Act.put, List.setIfInBounds_toArray, List.set_cons_zero, List.set_cons_succ]
                  refine tk 33 ⟨some 129, .move (.tmp 11), 3, "law.go:115", #[⟨32, .guard⟩], some (32, false)⟩ (?vq20TT_34) rfl (fun _ _ _ h => h) (.inl ⟨by rfl, ?yq20TT_34⟩) (by assumption) ?rq20TT_34
                  case yq20TT_34 => intro w hSw; go_simp; try with_reducible rfl
                  try simp only [Act.put, List.setIfInBounds_toArray, List.set_cons_zero, List.set_cons_succ]
                  refine tk 34 ⟨some 130, .binOp .gtr 3 (.tmp 129) (.const (.int .i64 0)) 3, 4, "law.go:115", #[⟨33, .data⟩, ⟨32, .guard⟩], some (32, false)⟩ (.bool true) rfl (fun _ _ _ h => h) (.inl ⟨by rfl, ?yq20TT_35⟩) (by assumption) ?rq20TT_35
                  case yq20TT_35 => intro w hSw; go_simp; first | done | (simp only [hj0]) | simp
                  try simp only [Act.put, List.setIfInBounds_toArray, List.set_cons_zero, List.set_cons_succ]
                  refine tk 35 ⟨some 131, .move (.tmp 130), 4, "law.go:115", #[⟨34, .data⟩, ⟨32, .chain⟩, ⟨32, .guard⟩], some (32, false)⟩ (.bool true) rfl (fun _ _ _ h => h) (.inl ⟨by rfl, ?yq20TT_36⟩) (by assumption) ?rq20TT_36
                  case yq20TT_36 => intro w hSw; go_simp; try with_reducible rfl
                  try simp only [Act.put, List.setIfInBounds_toArray, List.set_cons_zero, List.set_cons_succ]
                  refine tk 36 ⟨some 132, .move (.tmp 5), 24, "law.go:115", #[⟨35, .guard⟩], some (35, true)⟩ (?vq20TT_37) rfl (fun _ _ _ h => h) (.inl ⟨by rfl, ?yq20TT_37⟩) (by assumption) ?rq20TT_37
                  case yq20TT_37 => intro w hSw; go_simp; try with_reducible rfl
                  try simp only [Act.put, List.setIfInBounds_toArray, List.set_cons_zero, List.set_cons_succ]
                  refine tk 37 ⟨some 133, .move (.tmp 10), 34, "law.go:115", #[⟨35, .guard⟩], some (35, true)⟩ (?vq20TT_38) rfl (fun _ _ _ h => h) (.inl ⟨by rfl, ?yq20TT_38⟩) (by assumption) ?rq20TT_38
                  case yq20TT_38 => intro w hSw; go_simp; try with_reducible rfl
                  try simp only [Act.put, List.setIfInBounds_toArray, List.set_cons_zero, List.set_cons_succ]
                  refine tk 38 ⟨some 134, .move (.tmp 11), 3, "law.go:115", #[⟨35, .guard⟩], some (35, true)⟩ (?vq20TT_39) rfl (fun _ _ _ h => h) (.inl ⟨by rfl, ?yq20TT_39⟩) (by assumption) ?rq20TT_39
                  case yq20TT_39 => intro w hSw; go_simp; try with_reducible rfl
                  try simp only [Act.put, List.setIfInBounds_toArray, List.set_cons_zero, List.set_cons_succ]
                  refine tk 39 ⟨some 135, .indexAddr 34 (.tmp 133) (.tmp 134), 0, "law.go:115", #[⟨37, .data⟩, ⟨38, .data⟩, ⟨35, .guard⟩], some (35, true)⟩ (?vq20TT_40) rfl (fun _ _ _ h => h) (.inl ⟨by rfl, ?yq20TT_40⟩) (by assumption) ?rq20TT_40
                  case yq20TT_40 => intro w hSw; go_simp; try with_reducible rfl
                  try simp only [Act.put, List.setIfInBounds_toArray, List.set_cons_zero, List.set_cons_succ]
                  refine tk 40 ⟨some 136, .load 9 (.tmp 135), 9, "law.go:115", #[⟨39, .data⟩, ⟨35, .guard⟩], some (35, true)⟩ (?vq20TT_41) rfl (fun _ _ _ h => h) (.inl ⟨by rfl, ?yq20TT_41⟩) (by assumption) ?rq20TT_41
                  case yq20TT_41 => intro w hSw; go_simp; obtain ⟨S1, S2, S3, S4⟩ := hSw; go_simp; try with_reducible rfl
                  try simp only [Act.put, List.setIfInBounds_toArray, List.set_cons_zero, List.set_cons_succ]
                  refine tk 41 ⟨some 137, .move (.tmp 8), 34, "law.go:115", #[⟨35, .guard⟩], some (35, true)⟩ (?vq20TT_42) rfl (fun _ _ _ h => h) (.inl ⟨by rfl, ?yq20TT_42⟩) (by assumption) ?rq20TT_42
                  case yq20TT_42 => intro w hSw; go_simp; try with_reducible rfl
                  try simp only [Act.put, List.setIfInBounds_toArray, List.set_cons_zero, List.set_cons_succ]
                  refine tk 42 ⟨some 138, .move (.tmp 9), 3, "law.go:115", #[⟨35, .guard⟩], some (35, true)⟩ (?vq20TT_43) rfl (fun _ _ _ h => h) (.inl ⟨by rfl, ?yq20TT_43⟩) (by assumption) ?rq20TT_43
                  case yq20TT_43 => intro w hSw; go_simp; try with_reducible rfl
                  try simp only [Act.put, List.setIfInBounds_toArray, List.set_cons_zero, List.set_cons_succ]
                  refine tk 43 ⟨some 139, .indexAddr 34 (.tmp 137) (.tmp 138), 0, "law.go:115", #[⟨41, .data⟩, ⟨42, .data⟩, ⟨35, .guard⟩], some (35, true)⟩ (?vq20TT_44) rfl (fun _ _ _ h => h) (.inl ⟨by rfl, ?yq20TT_44⟩) (by assumption) ?rq20TT_44
                  case yq20TT_44 => intro w hSw; go_simp; try with_reducible rfl
                  try simp only [Act.put, List.setIfInBounds_toArray, List.set_cons_zero, List.set_cons_succ]
                  refine tk 44 ⟨some 140, .load 9 (.tmp 139), 9, "law.go:115", #[⟨43, .data⟩, ⟨35, .guard⟩], some (35, true)⟩ (?vq20TT_45) rfl (fun _ _ _ h => h) (.inl ⟨by rfl, ?yq20TT_45⟩) (by assumption) ?rq20TT_45
                  case yq20TT_45 => intro w hSw; go_simp; obtain ⟨S1, S2, S3, S4⟩ := hSw; go_simp; try with_reducible rfl
                  try simp only [Act.put, List.setIfInBounds_toArray, List.set_cons_zero, List.set_cons_succ]
                  refine wpAnyH_ready (rs := [45]) (by kernel_rfl) (by simp) ?_
                  refine AllReadyH.cons (o := ⟨some 141, .call { callee := .value (.func 10), args := #[.tmp 132, .tmp 136, .tmp 140], argTypes := #[24, 9, 9] }, 4, "law.go:115", #[⟨36, .data⟩, ⟨40, .data⟩, ⟨44, .data⟩, ⟨35, .chain⟩, ⟨35, .guard⟩], some (35, true)⟩) rfl (fun K hK => ?_) AllReadyH.nil
                  go_simp
                  go_at_call 10; refine (SU2.out _ (by assumption)).mono ?_; rintro e w9 ⟨rfl, b9⟩
                  try go_wp2_with fail
                  refine hK.out _ _ ?hSq20TT_46 ?restq20TT_46
                  case hSq20TT_46 => (try dsimp only); first | exact HSA.out | exact HSAd.out | exact HSB.out _ (by assumption) | exact HSC.out _ _ (by assumption) (by assumption)
                  clear hK K hHeld
                  intro hHeld
                  try simp only [Act.put, List.setIfInBounds_toArray, List.set_cons_zero, List.set_cons_succ]
                  refine tk 46 ⟨some 142, .pick (.tmp 131) (.tmp 141) (.const (.bool false)), 4, "law.go:115", #[⟨35, .data⟩, ⟨45, .data⟩, ⟨32, .guard⟩], some (32, false)⟩ (.bool false) rfl (fun _ _ _ h => h) (.inl ⟨by rfl, ?yq20TT_47⟩) (by assumption) ?rq20TT_47
                  case yq20TT_47 => intro w hSw; go_simp; try with_reducible rfl
                  try simp only [Act.put, List.setIfInBounds_toArray, List.set_cons_zero, List.set_cons_succ]
                  refine tk 47 ⟨some 143, .pick (.tmp 128) (.const (.bool true)) (.tmp 142), 4, "law.go:115", #[⟨32, .data⟩, ⟨46, .data⟩], none⟩ (.bool false) rfl (fun _ _ _ h => h) (.inl ⟨by rfl, ?yq20TT_48⟩) (by assumption) ?rq20TT_48
                  case yq20TT_48 => intro w hSw; go_simp; try with_reducible rfl
                  try simp only [Act.put, List.setIfInBounds_toArray, List.set_cons_zero, List.set_cons_succ]
                  refine wpAnyH_done (by kernel_rfl) ?_ _
                  refine NoPanic.normal ?_
                  go_wp2_with fail
                  have HB8 : Hid (Below WC.heap.size WC w8) := ⟨b8.os, b8.tape, b8.output, b8.size, b8.block⟩
                  go_roundw
                  case rel => exact ⟨j + 1, by go_num, by omega, next HBJ.out (next HB7.out (next HB8.out b9))⟩
                  case measure => simp [intOf]; omega
                · have hb' : ¬ (0 : Int) < (j : Int) := by omega
                  have hj0 : decide ((0 : Int) < (j : Int)) = false := decide_eq_false hb'
                  have HSA : Hid (Cells4 gn gl gc i j (j + 1) s x y y WC) := ⟨q1, q2, q3, q4⟩
                  have HSAd : Hid (Cells4 gn gl gc i j (j + 1) s x y y WC.drew) := HSA.out
                  have HSB : Hid (∀ W, Below WC.drew.heap.size WC.drew W → Cells4 gn gl gc i j (j + 1) s x y y W) := fun W b => HSAd.out.below b
                  have HSC : Hid (∀ W W', Below WC.drew.heap.size WC.drew W → Below W.heap.size W W' → Cells4 gn gl gc i j (j + 1) s x y y W') := fun W W' b b' => (HSB.out W b).below b'
                  clear q1 q2 q3 q4
                  go_upto_region 20 with (fail)
                  refine wp_region_noPanic ?_
                  refine wp_region_held_drew (S := (Cells4 gn gl gc i j (j + 1) s x y y)) (by kernel_rfl) ?_ (fun hHeld => ?_)
                  · (try dsimp only); first | exact HSA.out | exact HSAd.out | exact HSB.out _ (by assumption) | exact HSC.out _ _ (by assumption) (by assumption)
                  refine tk 0 ⟨some 96, .move (.tmp 13), 4, "law.go:115", #[], none⟩ (?vq20TF_1) rfl (fun _ _ _ h => h) (.inl ⟨by rfl, ?yq20TF_1⟩) (by assumption) ?rq20TF_1
                  case yq20TF_1 => intro w hSw; go_simp; try with_reducible rfl
                  try simp only [Act.put, List.setIfInBounds_toArray, List.set_cons_zero, List.set_cons_succ]
                  refine tk 1 ⟨some 97, .unOp .not 4 (.tmp 96), 4, "law.go:115", #[⟨0, .data⟩], none⟩ (?vq20TF_2) rfl (fun _ _ _ h => h) (.inl ⟨by rfl, ?yq20TF_2⟩) (by assumption) ?rq20TF_2
                  case yq20TF_2 => intro w hSw; go_simp; try with_reducible rfl
                  try simp only [Act.put, List.setIfInBounds_toArray, List.set_cons_zero, List.set_cons_succ]
                  refine tk 2 ⟨some 98, .move (.tmp 97), 4, "law.go:115", #[⟨1, .data⟩], none⟩ (?vq20TF_3) rfl (fun _ _ _ h => h) (.inl ⟨by rfl, ?yq20TF_3⟩) (by assumption) ?rq20TF_3
                  case yq20TF_3 => intro w hSw; go_simp; try with_reducible rfl
                  try simp only [Act.put, List.setIfInBounds_toArray, List.set_cons_zero, List.set_cons_succ]
                  refine tk 3 ⟨some 99, .move (.tmp 5), 24, "law.go:115", #[⟨2, .guard⟩], some (2, false)⟩ (?vq20TF_4) rfl (fun _ _ _ h => h) (.inl ⟨by rfl, ?yq20TF_4⟩) (by assumption) ?rq20TF_4
                  case yq20TF_4 => intro w hSw; go_simp; try with_reducible rfl
                  try simp only [Act.put, List.setIfInBounds_toArray, List.set_cons_zero, List.set_cons_succ]
                  refine tk 4 ⟨some 100, .move (.tmp 8), 34, "law.go:115", #[⟨2, .guard⟩], some (2, false)⟩ (?vq20TF_5) rfl (fun _ _ _ h => h) (.inl ⟨by rfl, ?yq20TF_5⟩) (by assumption) ?rq20TF_5
                  case yq20TF_5 => intro w hSw; go_simp; try with_reducible rfl
                  try simp only [Act.put, List.setIfInBounds_toArray, List.set_cons_zero, List.set_cons_succ]
                  refine tk 5 ⟨some 101, .move (.tmp 9), 3, "law.go:115", #[⟨2, .guard⟩], some (2, false)⟩ (?vq20TF_6) rfl (fun _ _ _ h => h) (.inl ⟨by rfl, ?yq20TF_6⟩) (by assumption) ?rq20TF_6
                  case yq20TF_6 => intro w hSw; go_simp; try with_reducible rfl
                  try simp only [Act.put, List.setIfInBounds_toArray, List.set_cons_zero, List.set_cons_succ]
                  refine tk 6 ⟨some 102, .indexAddr 34 (.tmp 100) (.tmp 101), 0, "law.go:115", #[⟨4, .data⟩, ⟨5, .data⟩, ⟨2, .guard⟩], some (2, false)⟩ (?vq20TF_7) rfl (fun _ _ _ h => h) (.inl ⟨by rfl, ?yq20TF_7⟩) (by assumption) ?rq20TF_7
                  case yq20TF_7 => intro w hSw; go_simp; try with_reducible rfl
                  try simp only [Act.put, List.setIfInBounds_toArray, List.set_cons_zero, List.set_cons_succ]
                  refine tk 7 ⟨some 103, .load 9 (.tmp 102), 9, "law.go:115", #[⟨6, .data⟩, ⟨2, .guard⟩], some (2, false)⟩ (?vq20TF_8) rfl (fun _ _ _ h => h) (.inl ⟨by rfl, ?yq20TF_8⟩) (by assumption) ?rq20TF_8
                  case yq20TF_8 => intro w hSw; go_simp; obtain ⟨S1, S2, S3, S4⟩ := hSw; go_simp; try with_reducible rfl
                  try simp only [Act.put, List.setIfInBounds_toArray, List.set_cons_zero, List.set_cons_succ]
                  refine tk 8 ⟨some 104, .move (.tmp 10), 34, "law.go:115", #[⟨2, .guard⟩], some (2, false)⟩ (?vq20TF_9) rfl (fun _ _ _ h => h) (.inl ⟨by rfl, ?yq20TF_9⟩) (by assumption) ?rq20TF_9
                  case yq20TF_9 => intro w hSw; go_simp; try with_reducible rfl
                  try simp only [Act.put, List.setIfInBounds_toArray, List.set_cons_zero, List.set_cons_succ]
                  refine tk 9 ⟨some 105, .move (.tmp 11), 3, "law.go:115", #[⟨2, .guard⟩], some (2, false)⟩ (?vq20TF_10) rfl (fun _ _ _ h => h) (.inl ⟨by rfl, ?yq20TF_10⟩) (by assumption) ?rq20TF_10
                  case yq20TF_10 => intro w hSw; go_simp; try with_reducible rfl
                  try simp only [Act.put, List.setIfInBounds_toArray, List.set_cons_zero, List.set_cons_succ]
                  refine tk 10 ⟨some 106, .indexAddr 34 (.tmp 104) (.tmp 105), 0, "law.go:115", #[⟨8, .data⟩, ⟨9, .data⟩, ⟨2, .guard⟩], some (2, false)⟩ (?vq20TF_11) rfl (fun _ _ _ h => h) (.inl ⟨by rfl, ?yq20TF_11⟩) (by assumption) ?rq20TF_11
                  case yq20TF_11 => intro w hSw; go_simp; try with_reducible rfl
                  try simp only [Act.put, List.setIfInBounds_toArray, List.set_cons_zero, List.set_cons_succ]
                  refine tk 11 ⟨some 107, .load 9 (.tmp 106), 9, "law.go:115", #[⟨10, .data⟩, ⟨2, .guard⟩], some (2, false)⟩ (?vq20TF_12) rfl (fun _ _ _ h => h) (.inl ⟨by rfl, ?yq20TF_12⟩) (by assumption) ?rq20TF_12
                  case yq20TF_12 => intro w hSw; go_simp; obtain ⟨S1, S2, S3, S4⟩ := hSw; go_simp; try with_reducible rfl
                  try simp only [Act.put, List.setIfInBounds_toArray, List.set_cons_zero, List.set_cons_succ]
                  refine wpAnyH_ready (rs := [12]) (by kernel_rfl) (by simp) ?_
                  refine AllReadyH.cons (o := ⟨some 108, .call { callee := .value (.func 10), args := #[.tmp 99, .tmp 103, .tmp 107], argTypes := #[24, 9, 9] }, 4, "law.go:115", #[⟨3, .data⟩, ⟨7, .data⟩, ⟨11, .data⟩, ⟨2, .chain⟩, ⟨2, .guard⟩], some (2, false)⟩) rfl (fun K hK => ?_) AllReadyH.nil
                  go_simp
                  go_at_call 10; refine (SU1.out _ (Below.refl _ _)).mono ?_; rintro e w8 ⟨rfl, b8⟩
                  try go_wp2_with fail
                  refine hK.out _ _ ?hSq20TF_13 ?restq20TF_13
                  case hSq20TF_13 => (try dsimp only); first | exact HSA.out | exact HSAd.out | exact HSB.out _ (by assumption) | exact HSC.out _ _ (by assumption) (by assumption)
                  clear hK K hHeld
                  intro hHeld
                  try simp only [Act.put, List.setIfInBounds_toArray, List.set_cons_zero, List.set_cons_succ]
                  refine tk 13 ⟨some 109, .unOp .not 4 (.tmp 108), 4, "law.go:115", #[⟨12, .data⟩, ⟨2, .guard⟩], some (2, false)⟩ (?vq20TF_14) rfl (fun _ _ _ h => h) (.inl ⟨by rfl, ?yq20TF_14⟩) (by assumption) ?rq20TF_14
                  case yq20TF_14 => intro w hSw; go_simp; try with_reducible rfl
                  try simp only [Act.put, List.setIfInBounds_toArray, List.set_cons_zero, List.set_cons_succ]
                  refine tk 14 ⟨some 110, .pick (.tmp 98) (.const (.bool true)) (.tmp 109), 4, "law.go:115", #[⟨2, .data⟩, ⟨13, .data⟩], none⟩ (?vq20TF_15) rfl (fun _ _ _ h => h) (.inl ⟨by rfl, ?yq20TF_15⟩) (by assumption) ?rq20TF_15
                  case yq20TF_15 => intro w hSw; go_simp; try with_reducible rfl
                  try simp only [Act.put, List.setIfInBounds_toArray, List.set_cons_zero, List.set_cons_succ]
                  refine tk 15 ⟨some 111, .move (.tmp 110), 4, "law.go:115", #[⟨14, .data⟩, ⟨12, .chain⟩], none⟩ (?vq20TF_16) rfl (fun _ _ _ h => h) (.inl ⟨by rfl, ?yq20TF_16⟩) (by assumption) ?rq20TF_16
                  case yq20TF_16 => intro w hSw; go_simp; try with_reducible rfl
                  try simp only [Act.put, List.setIfInBounds_toArray, List.set_cons_zero, List.set_cons_succ]
                  refine tk 16 ⟨some 112, .move (.tmp 11), 3, "law.go:115", #[⟨15, .guard⟩], some (15, false)⟩ (?vq20TF_17) rfl (fun _ _ _ h => h) (.inl ⟨by rfl, ?yq20TF_17⟩) (by assumption) ?rq20TF_17
                  case yq20TF_17 => intro w hSw; go_simp; try with_reducible rfl
                  try simp only [Act.put, List.setIfInBounds_toArray, List.set_cons_zero, List.set_cons_succ]
                  refine tk 17 ⟨some 113, .binOp .add 3 (.tmp 112) (.const (.int .i64 1)) 3, 3, "law.go:115", #[⟨16, .data⟩, ⟨15, .guard⟩], some (15, false)⟩ (.int .i64 ((j : Int) + 1)) rfl (fun _ _ _ h => h) (.inl ⟨by rfl, ?yq20TF_18⟩) (by assumption) ?rq20TF_18
                  case yq20TF_18 => intro w hSw; go_simp; first | done | exact hw2 | (simp only [hw2])
                  try simp only [Act.put, List.setIfInBounds_toArray, List.set_cons_zero, List.set_cons_succ]
                  refine tk 18 ⟨some 114, .move (.tmp 10), 34, "law.go:115", #[⟨15, .guard⟩], some (15, false)⟩ (?vq20TF_19) rfl (fun _ _ _ h => h) (.inl ⟨by rfl, ?yq20TF_19⟩) (by assumption) ?rq20TF_19
                  case yq20TF_19 => intro w hSw; go_simp; try with_reducible rfl
                  try simp only [Act.put, List.setIfInBounds_toArray, List.set_cons_zero, List.set_cons_succ]
                  refine tk 19 ⟨some 115, .call { callee := .builtin .len, args := #[.tmp 114], argTypes := #[34] }, 3, "law.go:115", #[⟨18, .data⟩, ⟨15, .guard⟩], some (15, false)⟩ (?vq20TF_20) rfl (fun _ _ _ h => h) (.inl ⟨by rfl, ?yq20TF_20⟩) (by assumption) ?rq20TF_20
                  case yq20TF_20 => intro w hSw; go_simp; try with_reducible rfl
                  try simp only [Act.put, List.setIfInBounds_toArray, List.set_cons_zero, List.set_cons_succ]
                  refine tk 20 ⟨some 116, .binOp .lss 3 (.tmp 113) (.tmp 115) 3, 4, "law.go:115", #[⟨17, .data⟩, ⟨19, .data⟩, ⟨15, .guard⟩], some (15, false)⟩ (.bool true) rfl (fun _ _ _ h => h) (.inl ⟨by rfl, ?yq20TF_21⟩) (by assumption) ?rq20TF_21
                  case yq20TF_21 => intro w hSw; go_simp; first | done | (simp only [hj1]) | simp
                  try simp only [Act.put, List.setIfInBounds_toArray, List.set_cons_zero, List.set_cons_succ]
                  refine tk 21 ⟨some 117, .move (.tmp 116), 4, "law.go:115", #[⟨20, .data⟩, ⟨15, .chain⟩, ⟨15, .guard⟩], some (15, false)⟩ (.bool true) rfl (fun _ _ _ h => h) (.inl ⟨by rfl, ?yq20TF_22⟩) (by assumption) ?rq20TF_22
                  case yq20TF_22 => intro w hSw; go_simp; try with_reducible rfl
                  try simp only [Act.put, List.setIfInBounds_toArray, List.set_cons_zero, List.set_cons_succ]
                  refine tk 22 ⟨some 118, .fieldAddr 33 (.tmp 12) 1, 0, "law.go:115", #[⟨21, .guard⟩], some (21, true)⟩ (?vq20TF_23) rfl (fun _ _ _ h => h) (.inl ⟨by rfl, ?yq20TF_23⟩) (by assumption) ?rq20TF_23
                  case yq20TF_23 => intro w hSw; go_simp; try with_reducible rfl
                  try simp only [Act.put, List.setIfInBounds_toArray, List.set_cons_zero, List.set_cons_succ]
                  refine tk 23 ⟨some 119, .load 9 (.tmp 118), 9, "law.go:115", #[⟨22, .data⟩, ⟨21, .guard⟩], some (21, true)⟩ (?vq20TF_24) rfl (fun _ _ _ h => h) (.inl ⟨by rfl, ?yq20TF_24⟩) (by assumption) ?rq20TF_24
                  case yq20TF_24 => intro w hSw; go_simp; obtain ⟨S1, S2, S3, S4⟩ := hSw; go_simp; try with_reducible rfl
                  try simp only [Act.put, List.setIfInBounds_toArray, List.set_cons_zero, List.set_cons_succ]
                  refine tk 24 ⟨some 120, .move (.tmp 10), 34, "law.go:115", #[⟨21, .guard⟩], some (21, true)⟩ (?vq20TF_25) rfl (fun _ _ _ h => h) (.inl ⟨by rfl, ?yq20TF_25⟩) (by assumption) ?rq20TF_25
                  case yq20TF_25 => intro w hSw; go_simp; try with_reducible rfl
                  try simp only [Act.put, List.setIfInBounds_toArray, List.set_cons_zero, List.set_cons_succ]
                  refine tk 25 ⟨some 121, .move (.tmp 11), 3, "law.go:115", #[⟨21, .guard⟩], some (21, true)⟩ (?vq20TF_26) rfl (fun _ _ _ h => h) (.inl ⟨by rfl, ?yq20TF_26⟩) (by assumption) ?rq20TF_26
                  case yq20TF_26 => intro w hSw; go_simp; try with_reducible rfl
                  try simp only [Act.put, List.setIfInBounds_toArray, List.set_cons_zero, List.set_cons_succ]
                  refine tk 26 ⟨some 122, .binOp .add 3 (.tmp 121) (.const (.int .i64 1)) 3, 3, "law.go:115", #[⟨25, .data⟩, ⟨21, .guard⟩], some (21, true)⟩ (.int .i64 ((j : Int) + 1)) rfl (fun _ _ _ h => h) (.inl ⟨by rfl, ?yq20TF_27⟩) (by assumption) ?rq20TF_27
                  case yq20TF_27 => intro w hSw; go_simp; first | done | exact hw2 | (simp only [hw2])
                  try simp only [Act.put, List.setIfInBounds_toArray, List.set_cons_zero, List.set_cons_succ]
                  refine tk 27 ⟨some 123, .indexAddr 34 (.tmp 120) (.tmp 122), 0, "law.go:115", #[⟨24, .data⟩, ⟨26, .data⟩, ⟨21, .guard⟩], some (21, true)⟩ (.pointer (some ⟨gl, j + 1, none⟩)) rfl (fun _ _ _ h => h) (.inl ⟨by rfl, ?yq20TF_28⟩) (by assumption) ?rq20TF_28
                  case yq20TF_28 => intro w hSw; go_simp; (intro hh; exact absurd hh (by omega))
                  try simp only [Act.put, List.setIfInBounds_toArray, List.set_cons_zero, List.set_cons_succ]
                  refine tk 28 ⟨some 124, .load 9 (.tmp 123), 9, "law.go:115", #[⟨27, .data⟩, ⟨21, .guard⟩], some (21, true)⟩ (?vq20TF_29) rfl (fun _ _ _ h => h) (.inl ⟨by rfl, ?yq20TF_29⟩) (by assumption) ?rq20TF_29
                  case yq20TF_29 => intro w hSw; go_simp; obtain ⟨S1, S2, S3, S4⟩ := hSw; go_simp; try with_reducible rfl
                  try simp only [Act.put, List.setIfInBounds_toArray, List.set_cons_zero, List.set_cons_succ]
                  refine tk 29 ⟨some 125, .binOp .neq 9 (.tmp 119) (.tmp 124) 9, 4, "law.go:115", #[⟨23, .data⟩, ⟨28, .data⟩, ⟨21, .guard⟩], some (21, true)⟩ (.bool false) rfl (fun _ _ _ h => h) (.inl ⟨by rfl, ?yq20TF_30⟩) (by assumption) ?rq20TF_30
                  case yq20TF_30 => intro w hSw; go_simp; first | done | simp
                  try simp only [Act.put, List.setIfInBounds_toArray, List.set_cons_zero, List.set_cons_succ]
                  refine tk 30 ⟨some 126, .pick (.tmp 117) (.tmp 125) (.const (.bool false)), 4, "law.go:115", #[⟨21, .data⟩, ⟨29, .data⟩, ⟨15, .guard⟩], some (15, false)⟩ (.bool false) rfl (fun _ _ _ h => h) (.inl ⟨by rfl, ?yq20TF_31⟩) (by assumption) ?rq20TF_31
                  case yq20TF_31 => intro w hSw; go_simp; try with_reducible rfl
                  try simp only [Act.put, List.setIfInBounds_toArray, List.set_cons_zero, List.set_cons_succ]
                  refine tk 31 ⟨some 127, .pick (.tmp 111) (.const (.bool true)) (.tmp 126), 4, "law.go:115", #[⟨15, .data⟩, ⟨30, .data⟩], none⟩ (.bool false) rfl (fun _ _ _ h => h) (.inl ⟨by rfl, ?yq20TF_32⟩) (by assumption) ?rq20TF_32
                  case yq20TF_32 => intro w hSw; go_simp; try with_reducible rfl
                  try simp only [Act.put, List.setIfInBounds_toArray, List.set_cons_zero, List.set_cons_succ]
                  refine tk 32 ⟨some 128, .move (.tmp 127), 4, "law.go:115", #[⟨31, .data⟩, ⟨21, .chain⟩], none⟩ (.bool false) rfl (fun _ _ _ h => h) (.inl ⟨by rfl, ?yq20TF_33⟩) (by assumption) ?rq20TF_33
                  case yq20TF_33 => intro w hSw; go_simp; try with_reducible rfl
                  try simp only [Act.put, List.setIfInBounds_toArray, List.set_cons_zero, List.set_cons_succ]
                  refine tk 33 ⟨some 129, .move (.tmp 11), 3, "law.go:115", #[⟨32, .guard⟩], some (32, false)⟩ (?vq20TF_34) rfl (fun _ _ _ h => h) (.inl ⟨by rfl, ?yq20TF_34⟩) (by assumption) ?rq20TF_34
                  case yq20TF_34 => intro w hSw; go_simp; try with_reducible rfl
                  try simp only [Act.put, List.setIfInBounds_toArray, List.set_cons_zero, List.set_cons_succ]
                  refine tk 34 ⟨some 130, .binOp .gtr 3 (.tmp 129) (.const (.int .i64 0)) 3, 4, "law.go:115", #[⟨33, .data⟩, ⟨32, .guard⟩], some (32, false)⟩ (.bool false) rfl (fun _ _ _ h => h) (.inl ⟨by rfl, ?yq20TF_35⟩) (by assumption) ?rq20TF_35
                  case yq20TF_35 => intro w hSw; go_simp; first | done | (simp only [hj0]) | simp
                  try simp only [Act.put, List.setIfInBounds_toArray, List.set_cons_zero, List.set_cons_succ]
                  refine tk 35 ⟨some 131, .move (.tmp 130), 4, "law.go:115", #[⟨34, .data⟩, ⟨32, .chain⟩, ⟨32, .guard⟩], some (32, false)⟩ (.bool false) rfl (fun _ _ _ h => h) (.inl ⟨by rfl, ?yq20TF_36⟩) (by assumption) ?rq20TF_36
                  case yq20TF_36 => intro w hSw; go_simp; try with_reducible rfl
                  try simp only [Act.put, List.setIfInBounds_toArray, List.set_cons_zero, List.set_cons_succ]
                  refine tk 36 ⟨some 132, .move (.tmp 5), 24, "law.go:115", #[⟨35, .guard⟩], some (35, true)⟩ undef rfl (fun _ _ _ h => h) (.inr ⟨by rfl, rfl⟩) (by assumption) ?rq20TF_37; try simp only [Act.put, List.setIfInBounds_toArray, List.set_cons_zero, List.set_cons_succ]
                  refine tk 37 ⟨some 133, .move (.tmp 10), 34, "law.go:115", #[⟨35, .guard⟩], some (35, true)⟩ undef rfl (fun _ _ _ h => h) (.inr ⟨by rfl, rfl⟩) (by assumption) ?rq20TF_38; try simp only [Act.put, List.setIfInBounds_toArray, List.set_cons_zero, List.set_cons_succ]
                  refine tk 38 ⟨some 134, .move (.tmp 11), 3, "law.go:115", #[⟨35, .guard⟩], some (35, true)⟩ undef rfl (fun _ _ _ h => h) (.inr ⟨by rfl, rfl⟩) (by assumption) ?rq20TF_39; try simp only [Act.put, List.setIfInBounds_toArray, List.set_cons_zero, List.set_cons_succ]
                  refine tk 39 ⟨some 135, .indexAddr 34 (.tmp 133) (.tmp 134), 0, "law.go:115", #[⟨37, .data⟩, ⟨38, .data⟩, ⟨35, .guard⟩], some (35, true)⟩ undef rfl (fun _ _ _ h => h) (.inr ⟨by rfl, rfl⟩) (by assumption) ?rq20TF_40; try simp only [Act.put, List.setIfInBounds_toArray, List.set_cons_zero, List.set_cons_succ]
                  refine tk 40 ⟨some 136, .load 9 (.tmp 135), 9, "law.go:115", #[⟨39, .data⟩, ⟨35, .guard⟩], some (35, true)⟩ undef rfl (fun _ _ _ h => h) (.inr ⟨by rfl, rfl⟩) (by assumption) ?rq20TF_41; try simp only [Act.put, List.setIfInBounds_toArray, List.set_cons_zero, List.set_cons_succ]
                  refine tk 41 ⟨some 137, .move (.tmp 8), 34, "law.go:115", #[⟨35, .guard⟩], some (35, true)⟩ undef rfl (fun _ _ _ h => h) (.inr ⟨by rfl, rfl⟩) (by assumption) ?rq20TF_42; try simp only [Act.put, List.setIfInBounds_toArray, List.set_cons_zero, List.set_cons_succ]
                  refine tk 42 ⟨some 138, .move (.tmp 9), 3, "law.go:115", #[⟨35, .guard⟩], some (35, true)⟩ undef rfl (fun _ _ _ h => h) (.inr ⟨by rfl, rfl⟩) (by assumption) ?rq20TF_43; try simp only [Act.put, List.setIfInBounds_toArray, List.set_cons_zero, List.set_cons_succ]
                  refine tk 43 ⟨some 139, .indexAddr 34 (.tmp 137) (.tmp 138), 0, "law.go:115", #[⟨41, .data⟩, ⟨42, .data⟩, ⟨35, .guard⟩], some (35, true)⟩ undef rfl (fun _ _ _ h => h) (.inr ⟨by rfl, rfl⟩) (by assumption) ?rq20TF_44; try simp only [Act.put, List.setIfInBounds_toArray, List.set_cons_zero, List.set_cons_succ]
                  refine tk 44 ⟨some 140, .load 9 (.tmp 139), 9, "law.go:115", #[⟨43, .data⟩, ⟨35, .guard⟩], some (35, true)⟩ undef rfl (fun _ _ _ h => h) (.inr ⟨by rfl, rfl⟩) (by assumption) ?rq20TF_45; try simp only [Act.put, List.setIfInBounds_toArray, List.set_cons_zero, List.set_cons_succ]
                  refine tk 45 ⟨some 141, .call { callee := .value (.func 10), args := #[.tmp 132, .tmp 136, .tmp 140], argTypes := #[24, 9, 9] }, 4, "law.go:115", #[⟨36, .data⟩, ⟨40, .data⟩, ⟨44, .data⟩, ⟨35, .chain⟩, ⟨35, .guard⟩], some (35, true)⟩ undef rfl (fun _ _ _ h => h) (.inr ⟨by rfl, rfl⟩) (by assumption) ?rq20TF_46; try simp only [Act.put, List.setIfInBounds_toArray, List.set_cons_zero, List.set_cons_succ]
                  refine tk 46 ⟨some 142, .pick (.tmp 131) (.tmp 141) (.const (.bool false)), 4, "law.go:115", #[⟨35, .data⟩, ⟨45, .data⟩, ⟨32, .guard⟩], some (32, false)⟩ (.bool false) rfl (fun _ _ _ h => h) (.inl ⟨by rfl, ?yq20TF_47⟩) (by assumption) ?rq20TF_47
                  case yq20TF_47 => intro w hSw; go_simp; try with_reducible rfl
                  try simp only [Act.put, List.setIfInBounds_toArray, List.set_cons_zero, List.set_cons_succ]
                  refine tk 47 ⟨some 143, .pick (.tmp 128) (.const (.bool true)) (.tmp 142), 4, "law.go:115", #[⟨32, .data⟩, ⟨46, .data⟩], none⟩ (.bool false) rfl (fun _ _ _ h => h) (.inl ⟨by rfl, ?yq20TF_48⟩) (by assumption) ?rq20TF_48
                  case yq20TF_48 => intro w hSw; go_simp; try with_reducible rfl
                  try simp only [Act.put, List.setIfInBounds_toArray, List.set_cons_zero, List.set_cons_succ]
                  refine wpAnyH_done (by kernel_rfl) ?_ _
                  refine NoPanic.normal ?_
                  go_wp2_with fail
                  have HB8 : Hid (Below WC.heap.size WC w8) := ⟨b8.os, b8.tape, b8.output, b8.size, b8.block⟩
                  go_roundw
                  case rel => exact ⟨j + 1, by go_num, by omega, next HBJ.out (next HB7.out HB8.out)⟩
                  case measure => simp [intOf]; omega
              · have hj2 : ¬ (j : Int) + 1 < (L.length : Int) := by omega
                have hj1 : decide ((j : Int) + 1 < (L.length : Int)) = false := decide_eq_false hj2
                by_cases hb : 0 < j
                · have hj0 : decide ((0 : Int) < (j : Int)) = true := decide_eq_true (by omega)
                  have hsb := HBK.out hb
                  have SU2 : Hid (∀ W, Below WC.drew.heap.size WC.drew W → Calls Tryz.prog 10 #[.pointer (some ⟨pk, 0, none⟩), .string x, .string s] W fun e w' => e = .returned (.bool false) ∧ Below W.heap.size W w') := fun W b => by
                    have := sub_any W pk RR mb aon cn (V7.out.below ⟨b.os, b.tape, b.output, b.size, b.block⟩) x s
                    rw [subB_kk, hsb] at this
                    exact this
                  have HSA : Hid (Cells4 gn gl gc i j (j) s x x p WC) := ⟨q1, q2, q3, q2⟩
                  have HSAd : Hid (Cells4 gn gl gc i j (j) s x x p WC.drew) := HSA.out
                  have HSB : Hid (∀ W, Below WC.drew.heap.size WC.drew W → Cells4 gn gl gc i j (j) s x x p W) := fun W b => HSAd.out.below b
                  have HSC : Hid (∀ W W', Below WC.drew.heap.size WC.drew W → Below W.heap.size W W' → Cells4 gn gl gc i j (j) s x x p W') := fun W W' b b' => (HSB.out W b).below b'
                  clear q1 q2 q3
                  go_upto_region 20 with (fail)
                  refine wp_region_noPanic ?_
                  refine wp_region_held_drew (S := (Cells4 gn gl gc i j (j) s x x p)) (by kernel_rfl) ?_ (fun hHeld => ?_)
                  · (try dsimp only); first | exact HSA.out | exact HSAd.out | exact HSB.out _ (by assumption) | exact HSC.out _ _ (by assumption) (by assumption)
                  refine tk 0 ⟨some 96, .move (.tmp 13), 4, "law.go:115", #[], none⟩ (?vq20FT_1) rfl (fun _ _ _ h => h) (.inl ⟨by rfl, ?yq20FT_1⟩) (by assumption) ?rq20FT_1
                  case yq20FT_1 => intro w hSw; go_simp; try with_reducible rfl
                  try simp only [Act.put, List.setIfInBounds_toArray, List.set_cons_zero, List.set_cons_succ]
                  refine tk 1 ⟨some 97, .unOp .not 4 (.tmp 96), 4, "law.go:115", #[⟨0, .data⟩], none⟩ (?vq20FT_2) rfl (fun _ _ _ h => h) (.inl ⟨by rfl, ?yq20FT_2⟩) (by assumption) ?rq20FT_2
                  case yq20FT_2 => intro w hSw; go_simp; try with_reducible rfl
                  try simp only [Act.put, List.setIfInBounds_toArray, List.set_cons_zero, List.set_cons_succ]
                  refine tk 2 ⟨some 98, .move (.tmp 97), 4, "law.go:115", #[⟨1, .data⟩], none⟩ (?vq20FT_3) rfl (fun _ _ _ h => h) (.inl ⟨by rfl, ?yq20FT_3⟩) (by assumption) ?rq20FT_3
                  case yq20FT_3 => intro w hSw; go_simp; try with_reducible rfl
                  try simp only [Act.put, List.setIfInBounds_toArray, List.set_cons_zero, List.set_cons_succ]
                  refine tk 3 ⟨some 99, .move (.tmp 5), 24, "law.go:115", #[⟨2, .guard⟩], some (2, false)⟩ (?vq20FT_4) rfl (fun _ _ _ h => h) (.inl ⟨by rfl, ?yq20FT_4⟩) (by assumption) ?rq20FT_4
                  case yq20FT_4 => intro w hSw; go_simp; try with_reducible rfl
                  try simp only [Act.put, List.setIfInBounds_toArray, List.set_cons_zero, List.set_cons_succ]
                  refine tk 4 ⟨some 100, .move (.tmp 8), 34, "law.go:115", #[⟨2, .guard⟩], some (2, false)⟩ (?vq20FT_5) rfl (fun _ _ _ h => h) (.inl ⟨by rfl, ?yq20FT_5⟩) (by assumption) ?rq20FT_5
                  case yq20FT_5 => intro w hSw; go_simp; try with_reducible rfl
                  try simp only [Act.put, List.setIfInBounds_toArray, List.set_cons_zero, List.set_cons_succ]
                  refine tk 5 ⟨some 101, .move (.tmp 9), 3, "law.go:115", #[⟨2, .guard⟩], some (2, false)⟩ (?vq20FT_6) rfl (fun _ _ _ h => h) (.inl ⟨by rfl, ?yq20FT_6⟩) (by assumption) ?rq20FT_6
                  case yq20FT_6 => intro w hSw; go_simp; try with_reducible rfl
                  try simp only [Act.put, List.setIfInBounds_toArray, List.set_cons_zero, List.set_cons_succ]
                  refine tk 6 ⟨some 102, .indexAddr 34 (.tmp 100) (.tmp 101), 0, "law.go:115", #[⟨4, .data⟩, ⟨5, .data⟩, ⟨2, .guard⟩], some (2, false)⟩ (?vq20FT_7) rfl (fun _ _ _ h => h) (.inl ⟨by rfl, ?yq20FT_7⟩) (by assumption) ?rq20FT_7
                  case yq20FT_7 => intro w hSw; go_simp; try with_reducible rfl
                  try simp only [Act.put, List.setIfInBounds_toArray, List.set_cons_zero, List.set_cons_succ]
                  refine tk 7 ⟨some 103, .load 9 (.tmp 102), 9, "law.go:115", #[⟨6, .data⟩, ⟨2, .guard⟩], some (2, false)⟩ (?vq20FT_8) rfl (fun _ _ _ h => h) (.inl ⟨by rfl, ?yq20FT_8⟩) (by assumption) ?rq20FT_8
                  case yq20FT_8 => intro w hSw; go_simp; obtain ⟨S1, S2, S3, S4⟩ := hSw; go_simp; try with_reducible rfl
                  try simp only [Act.put, List.setIfInBounds_toArray, List.set_cons_zero, List.set_cons_succ]
                  refine tk 8 ⟨some 104, .move (.tmp 10), 34, "law.go:115", #[⟨2, .guard⟩], some (2, false)⟩ (?vq20FT_9) rfl (fun _ _ _ h => h) (.inl ⟨by rfl, ?yq20FT_9⟩) (by assumption) ?rq20FT_9
                  case yq20FT_9 => intro w hSw; go_simp; try with_reducible rfl
                  try simp only [Act.put, List.setIfInBounds_toArray, List.set_cons_zero, List.set_cons_succ]
                  refine tk 9 ⟨some 105, .move (.tmp 11), 3, "law.go:115", #[⟨2, .guard⟩], some (2, false)⟩ (?vq20FT_10) rfl (fun _ _ _ h => h) (.inl ⟨by rfl, ?yq20FT_10⟩) (by assumption) ?rq20FT_10
                  case yq20FT_10 => intro w hSw; go_simp; try with_reducible rfl
                  try simp only [Act.put, List.setIfInBounds_toArray, List.set_cons_zero, List.set_cons_succ]
                  refine tk 10 ⟨some 106, .indexAddr 34 (.tmp 104) (.tmp 105), 0, "law.go:115", #[⟨8, .data⟩, ⟨9, .data⟩, ⟨2, .guard⟩], some (2, false)⟩ (?vq20FT_11) rfl (fun _ _ _ h => h) (.inl ⟨by rfl, ?yq20FT_11⟩) (by assumption) ?rq20FT_11
                  case yq20FT_11 => intro w hSw; go_simp; try with_reducible rfl
                  try simp only [Act.put, List.setIfInBounds_toArray, List.set_cons_zero, List.set_cons_succ]
                  refine tk 11 ⟨some 107, .load 9 (.tmp 106), 9, "law.go:115", #[⟨10, .data⟩, ⟨2, .guard⟩], some (2, false)⟩ (?vq20FT_12) rfl (fun _ _ _ h => h) (.inl ⟨by rfl, ?yq20FT_12⟩) (by assumption) ?rq20FT_12
                  case yq20FT_12 => intro w hSw; go_simp; obtain ⟨S1, S2, S3, S4⟩ := hSw; go_simp; try with_reducible rfl
                  try simp only [Act.put, List.setIfInBounds_toArray, List.set_cons_zero, List.set_cons_succ]
                  refine wpAnyH_ready (rs := [12]) (by kernel_rfl) (by simp) ?_
                  refine AllReadyH.cons (o := ⟨some 108, .call { callee := .value (.func 10), args := #[.tmp 99, .tmp 103, .tmp 107], argTypes := #[24, 9, 9] }, 4, "law.go:115", #[⟨3, .data⟩, ⟨7, .data⟩, ⟨11, .data⟩, ⟨2, .chain⟩, ⟨2, .guard⟩], some (2, false)⟩) rfl (fun K hK => ?_) AllReadyH.nil
                  go_simp
                  go_at_call 10; refine (SU1.out _ (Below.refl _ _)).mono ?_; rintro e w8 ⟨rfl, b8⟩
                  try go_wp2_with fail
                  refine hK.out _ _ ?hSq20FT_13 ?restq20FT_13
                  case hSq20FT_13 => (try dsimp only); first | exact HSA.out | exact HSAd.out | exact HSB.out _ (by assumption) | exact HSC.out _ _ (by assumption) (by assumption)
                  clear hK K hHeld
                  intro hHeld
                  try simp only [Act.put, List.setIfInBounds_toArray, List.set_cons_zero, List.set_cons_succ]
                  refine tk 13 ⟨some 109, .unOp .not 4 (.tmp 108), 4, "law.go:115", #[⟨12, .data⟩, ⟨2, .guard⟩], some (2, false)⟩ (?vq20FT_14) rfl (fun _ _ _ h => h) (.inl ⟨by rfl, ?yq20FT_14⟩) (by assumption) ?rq20FT_14
                  case yq20FT_14 => intro w hSw; go_simp; try with_reducible rfl
                  try simp only [Act.put, List.setIfInBounds_toArray, List.set_cons_zero, List.set_cons_succ]
                  refine tk 14 ⟨some 110, .pick (.tmp 98) (.const (.bool true)) (.tmp 109), 4, "law.go:115", #[⟨2, .data⟩, ⟨13, .data⟩], none⟩ (?vq20FT_15) rfl (fun _ _ _ h => h) (.inl ⟨by rfl, ?yq20FT_15⟩) (by assumption) ?rq20FT_15
                  case yq20FT_15 => intro w hSw; go_simp; try with_reducible rfl
                  try simp only [Act.put, List.setIfInBounds_toArray, List.set_cons_zero, List.set_cons_succ]
                  refine tk 15 ⟨some 111, .move (.tmp 110), 4, "law.go:115", #[⟨14, .data⟩, ⟨12, .chain⟩], none⟩ (?vq20FT_16) rfl (fun _ _ _ h => h) (.inl ⟨by rfl, ?yq20FT_16⟩) (by assumption) ?rq20FT_16
                  case yq20FT_16 => intro w hSw; go_simp; try with_reducible rfl
                  try simp only [Act.put, List.setIfInBounds_toArray, List.set_cons_zero, List.set_cons_succ]
                  refine tk 16 ⟨some 112, .move (.tmp 11), 3, "law.go:115", #[⟨15, .guard⟩], some (15, false)⟩ (?vq20FT_17) rfl (fun _ _ _ h => h) (.inl ⟨by rfl, ?yq20FT_17⟩) (by assumption) ?rq20FT_17
                  case yq20FT_17 => intro w hSw; go_simp; try with_reducible rfl
                  try simp only [Act.put, List.setIfInBounds_toArray, List.set_cons_zero, List.set_cons_succ]
                  refine tk 17 ⟨some 113, .binOp .add 3 (.tmp 112) (.const (.int .i64 1)) 3, 3, "law.go:115", #[⟨16, .data⟩, ⟨15, .guard⟩], some (15, false)⟩ (.int .i64 ((j : Int) + 1)) rfl (fun _ _ _ h => h) (.inl ⟨by rfl, ?yq20FT_18⟩) (by assumption) ?rq20FT_18
                  case yq20FT_18 => intro w hSw; go_simp; first | done | exact hw2 | (simp only [hw2])
                  try simp only [Act.put, List.setIfInBounds_toArray, List.set_cons_zero, List.set_cons_succ]
                  refine tk 18 ⟨some 114, .move (.tmp 10), 34, "law.go:115", #[⟨15, .guard⟩], some (15, false)⟩ (?vq20FT_19) rfl (fun _ _ _ h => h) (.inl ⟨by rfl, ?yq20FT_19⟩) (by assumption) ?rq20FT_19
                  case yq20FT_19 => intro w hSw; go_simp; try with_reducible rfl
                  try simp only [Act.put, List.setIfInBounds_toArray, List.set_cons_zero, List.set_cons_succ]
                  refine tk 19 ⟨some 115, .call { callee := .builtin .len, args := #[.tmp 114], argTypes := #[34] }, 3, "law.go:115", #[⟨18, .data⟩, ⟨15, .guard⟩], some (15, false)⟩ (?vq20FT_20) rfl (fun _ _ _ h => h) (.inl ⟨by rfl, ?yq20FT_20⟩) (by assumption) ?rq20FT_20
                  case yq20FT_20 => intro w hSw; go_simp; try with_reducible rfl
                  try simp only [Act.put, List.setIfInBounds_toArray, List.set_cons_zero, List.set_cons_succ]
                  refine tk 20 ⟨some 116, .binOp .lss 3 (.tmp 113) (.tmp 115) 3, 4, "law.go:115", #[⟨17, .data⟩, ⟨19, .data⟩, ⟨15, .guard⟩], some (15, false)⟩ (.bool false) rfl (fun _ _ _ h => h) (.inl ⟨by rfl, ?yq20FT_21⟩) (by assumption) ?rq20FT_21
                  case yq20FT_21 => intro w hSw; go_simp; first | done | (simp only [hj1]) | simp
                  try simp only [Act.put, List.setIfInBounds_toArray, List.set_cons_zero, List.set_cons_succ]
                  refine tk 21 ⟨some 117, .move (.tmp 116), 4, "law.go:115", #[⟨20, .data⟩, ⟨15, .chain⟩, ⟨15, .guard⟩], some (15, false)⟩ (.bool false) rfl (fun _ _ _ h => h) (.inl ⟨by rfl, ?yq20FT_22⟩) (by assumption) ?rq20FT_22
                  case yq20FT_22 => intro w hSw; go_simp; try with_reducible rfl
                  try simp only [Act.put, List.setIfInBounds_toArray, List.set_cons_zero, List.set_cons_succ]
                  refine tk 22 ⟨some 118, .fieldAddr 33 (.tmp 12) 1, 0, "law.go:115", #[⟨21, .guard⟩], some (21, true)⟩ undef rfl (fun _ _ _ h => h) (.inr ⟨by rfl, rfl⟩) (by assumption) ?rq20FT_23; try simp only [Act.put, List.setIfInBounds_toArray, List.set_cons_zero, List.set_cons_succ]
                  refine tk 23 ⟨some 119, .load 9 (.tmp 118), 9, "law.go:115", #[⟨22, .data⟩, ⟨21, .guard⟩], some (21, true)⟩ undef rfl (fun _ _ _ h => h) (.inr ⟨by rfl, rfl⟩) (by assumption) ?rq20FT_24; try simp only [Act.put, List.setIfInBounds_toArray, List.set_cons_zero, List.set_cons_succ]
                  refine tk 24 ⟨some 120, .move (.tmp 10), 34, "law.go:115", #[⟨21, .guard⟩], some (21, true)⟩ undef rfl (fun _ _ _ h => h) (.inr ⟨by rfl, rfl⟩) (by assumption) ?rq20FT_25; try simp only [Act.put, List.setIfInBounds_toArray, List.set_cons_zero, List.set_cons_succ]
                  refine tk 25 ⟨some 121, .move (.tmp 11), 3, "law.go:115", #[⟨21, .guard⟩], some (21, true)⟩ undef rfl (fun _ _ _ h => h) (.inr ⟨by rfl, rfl⟩) (by assumption) ?rq20FT_26; try simp only [Act.put, List.setIfInBounds_toArray, List.set_cons_zero, List.set_cons_succ]
                  refine tk 26 ⟨some 122, .binOp .add 3 (.tmp 121) (.const (.int .i64 1)) 3, 3, "law.go:115", #[⟨25, .data⟩, ⟨21, .guard⟩], some (21, true)⟩ undef rfl (fun _ _ _ h => h) (.inr ⟨by rfl, rfl⟩) (by assumption) ?rq20FT_27; try simp only [Act.put, List.setIfInBounds_toArray, List.set_cons_zero, List.set_cons_succ]
                  refine tk 27 ⟨some 123, .indexAddr 34 (.tmp 120) (.tmp 122), 0, "law.go:115", #[⟨24, .data⟩, ⟨26, .data⟩, ⟨21, .guard⟩], some (21, true)⟩ undef rfl (fun _ _ _ h => h) (.inr ⟨by rfl, rfl⟩) (by assumption) ?rq20FT_28; try simp only [Act.put, List.setIfInBounds_toArray, List.set_cons_zero, List.set_cons_succ]
                  refine tk 28 ⟨some 124, .load 9 (.tmp 123), 9, "law.go:115", #[⟨27, .data⟩, ⟨21, .guard⟩], some (21, true)⟩ undef rfl (fun _ _ _ h => h) (.inr ⟨by rfl, rfl⟩) (by assumption) ?rq20FT_29; try simp only [Act.put, List.setIfInBounds_toArray, List.set_cons_zero, List.set_cons_succ]
                  refine tk 29 ⟨some 125, .binOp .neq 9 (.tmp 119) (.tmp 124) 9, 4, "law.go:115", #[⟨23, .data⟩, ⟨28, .data⟩, ⟨21, .guard⟩], some (21, true)⟩ undef rfl (fun _ _ _ h => h) (.inr ⟨by rfl, rfl⟩) (by assumption) ?rq20FT_30; try simp only [Act.put, List.setIfInBounds_toArray, List.set_cons_zero, List.set_cons_succ]
                  refine tk 30 ⟨some 126, .pick (.tmp 117) (.tmp 125) (.const (.bool false)), 4, "law.go:115", #[⟨21, .data⟩, ⟨29, .data⟩, ⟨15, .guard⟩], some (15, false)⟩ (.bool false) rfl (fun _ _ _ h => h) (.inl ⟨by rfl, ?yq20FT_31⟩) (by assumption) ?rq20FT_31
                  case yq20FT_31 => intro w hSw; go_simp; try with_reducible rfl
                  try simp only [Act.put, List.setIfInBounds_toArray, List.set_cons_zero, List.set_cons_succ]
                  refine tk 31 ⟨some 127, .pick (.tmp 111) (.const (.bool true)) (.tmp 126), 4, "law.go:115", #[⟨15, .data⟩, ⟨30, .data⟩], none⟩ (.bool false) rfl (fun _ _ _ h => h) (.inl ⟨by rfl, ?yq20FT_32⟩) (by assumption) ?rq20FT_32
                  case yq20FT_32 => intro w hSw; go_simp; try with_reducible rfl
                  try simp only [Act.put, List.setIfInBounds_toArray, List.set_cons_zero, List.set_cons_succ]
                  refine tk 32 ⟨some 128, .move (.tmp 127), 4, "law.go:115", #[⟨31, .data⟩, ⟨21, .chain⟩], none⟩ (.bool false) rfl (fun _ _ _ h => h) (.inl ⟨by rfl, ?yq20FT_33⟩) (by assumption) ?rq20FT_33
                  case yq20FT_33 => intro w hSw; go_simp; try with_reducible rfl
                  try simp only [Act.put, List.setIfInBounds_toArray, List.set_cons_zero, List.set_cons_succ]
                  refine tk 33 ⟨some 129, .move (.tmp 11), 3, "law.go:115", #[⟨32, .guard⟩], some (32, false)⟩ (?vq20FT_34) rfl (fun _ _ _ h => h) (.inl ⟨by rfl, ?yq20FT_34⟩) (by assumption) ?rq20FT_34
                  case yq20FT_34 => intro w hSw; go_simp; try with_reducible rfl
                  try simp only [Act.put, List.setIfInBounds_toArray, List.set_cons_zero, List.set_cons_succ]
                  refine tk 34 ⟨some 130, .binOp .gtr 3 (.tmp 129) (.const (.int .i64 0)) 3, 4, "law.go:115", #[⟨33, .data⟩, ⟨32, .guard⟩], some (32, false)⟩ (.bool true) rfl (fun _ _ _ h => h) (.inl ⟨by rfl, ?yq20FT_35⟩) (by assumption) ?rq20FT_35
                  case yq20FT_35 => intro w hSw; go_simp; first | done | (simp only [hj0]) | simp
                  try simp only [Act.put, List.setIfInBounds_toArray, List.set_cons_zero, List.set_cons_succ]
                  refine tk 35 ⟨some 131, .move (.tmp 130), 4, "law.go:115", #[⟨34, .data⟩, ⟨32, .chain⟩, ⟨32, .guard⟩], some (32, false)⟩ (.bool true) rfl (fun _ _ _ h => h) (.inl ⟨by rfl, ?yq20FT_36⟩) (by assumption) ?rq20FT_36
                  case yq20FT_36 => intro w hSw; go_simp; try with_reducible rfl
                  try simp only [Act.put, List.setIfInBounds_toArray, List.set_cons_zero, List.set_cons_succ]
                  refine tk 36 ⟨some 132, .move (.tmp 5), 24, "law.go:115", #[⟨35, .guard⟩], some (35, true)⟩ (?vq20FT_37) rfl (fun _ _ _ h => h) (.inl ⟨by rfl, ?yq20FT_37⟩) (by assumption) ?rq20FT_37
                  case yq20FT_37 => intro w hSw; go_simp; try with_reducible rfl
                  try simp only [Act.put, List.setIfInBounds_toArray, List.set_cons_zero, List.set_cons_succ]
                  refine tk 37 ⟨some 133, .move (.tmp 10), 34, "law.go:115", #[⟨35, .guard⟩], some (35, true)⟩ (?vq20FT_38) rfl (fun _ _ _ h => h) (.inl ⟨by rfl, ?yq20FT_38⟩) (by assumption) ?rq20FT_38
                  case yq20FT_38 => intro w hSw; go_simp; try with_reducible rfl
                  try simp only [Act.put, List.setIfInBounds_toArray, List.set_cons_zero, List.set_cons_succ]
                  refine tk 38 ⟨some 134, .move (.tmp 11), 3, "law.go:115", #[⟨35, .guard⟩], some (35, true)⟩ (?vq20FT_39) rfl (fun _ _ _ h => h) (.inl ⟨by rfl, ?yq20FT_39⟩) (by assumption) ?rq20FT_39
                  case yq20FT_39 => intro w hSw; go_simp; try with_reducible rfl
                  try simp only [Act.put, List.setIfInBounds_toArray, List.set_cons_zero, List.set_cons_succ]
                  refine tk 39 ⟨some 135, .indexAddr 34 (.tmp 133) (.tmp 134), 0, "law.go:115", #[⟨37, .data⟩, ⟨38, .data⟩, ⟨35, .guard⟩], some (35, true)⟩ (?vq20FT_40) rfl (fun _ _ _ h => h) (.inl ⟨by rfl, ?yq20FT_40⟩) (by assumption) ?rq20FT_40
                  case yq20FT_40 => intro w hSw; go_simp; try with_reducible rfl
                  try simp only [Act.put, List.setIfInBounds_toArray, List.set_cons_zero, List.set_cons_succ]
                  refine tk 40 ⟨some 136, .load 9 (.tmp 135), 9, "law.go:115", #[⟨39, .data⟩, ⟨35, .guard⟩], some (35, true)⟩ (?vq20FT_41) rfl (fun _ _ _ h => h) (.inl ⟨by rfl, ?yq20FT_41⟩) (by assumption) ?rq20FT_41
                  case yq20FT_41 => intro w hSw; go_simp; obtain ⟨S1, S2, S3, S4⟩ := hSw; go_simp; try with_reducible rfl
                  try simp only [Act.put, List.setIfInBounds_toArray, List.set_cons_zero, List.set_cons_succ]
                  refine tk 41 ⟨some 137, .move (.tmp 8), 34, "law.go:115", #[⟨35, .guard⟩], some (35, true)⟩ (?vq20FT_42) rfl (fun _ _ _ h => h) (.inl ⟨by rfl, ?yq20FT_42⟩) (by assumption) ?rq20FT_42
                  case yq20FT_42 => intro w hSw; go_simp; try with_reducible rfl
                  try simp only [Act.put, List.setIfInBounds_toArray, List.set_cons_zero, List.set_cons_succ]
                  refine tk 42 ⟨some 138, .move (.tmp 9), 3, "law.go:115", #[⟨35, .guard⟩], some (35, true)⟩ (?vq20FT_43) rfl (fun _ _ _ h => h) (.inl ⟨by rfl, ?yq20FT_43⟩) (by assumption) ?rq20FT_43
                  case yq20FT_43 => intro w hSw; go_simp; try with_reducible rfl
                  try simp only [Act.put, List.setIfInBounds_toArray, List.set_cons_zero, List.set_cons_succ]
                  refine tk 43 ⟨some 139, .indexAddr 34 (.tmp 137) (.tmp 138), 0, "law.go:115", #[⟨41, .data⟩, ⟨42, .data⟩, ⟨35, .guard⟩], some (35, true)⟩ (?vq20FT_44) rfl (fun _ _ _ h => h) (.inl ⟨by rfl, ?yq20FT_44⟩) (by assumption) ?rq20FT_44
                  case yq20FT_44 => intro w hSw; go_simp; try with_reducible rfl
                  try simp only [Act.put, List.setIfInBounds_toArray, List.set_cons_zero, List.set_cons_succ]
                  refine tk 44 ⟨some 140, .load 9 (.tmp 139), 9, "law.go:115", #[⟨43, .data⟩, ⟨35, .guard⟩], some (35, true)⟩ (?vq20FT_45) rfl (fun _ _ _ h => h) (.inl ⟨by rfl, ?yq20FT_45⟩) (by assumption) ?rq20FT_45
                  case yq20FT_45 => intro w hSw; go_simp; obtain ⟨S1, S2, S3, S4⟩ := hSw; go_simp; try with_reducible rfl
                  try simp only [Act.put, List.setIfInBounds_toArray, List.set_cons_zero, List.set_cons_succ]
                  refine wpAnyH_ready (rs := [45]) (by kernel_rfl) (by simp) ?_
                  refine AllReadyH.cons (o := ⟨some 141, .call { callee := .value (.func 10), args := #[.tmp 132, .tmp 136, .tmp 140], argTypes := #[24, 9, 9] }, 4, "law.go:115", #[⟨36, .data⟩, ⟨40, .data⟩, ⟨44, .data⟩, ⟨35, .chain⟩, ⟨35, .guard⟩], some (35, true)⟩) rfl (fun K hK => ?_) AllReadyH.nil
                  go_simp
                  go_at_call 10; refine (SU2.out _ (by assumption)).mono ?_; rintro e w9 ⟨rfl, b9⟩
                  try go_wp2_with fail
                  refine hK.out _ _ ?hSq20FT_46 ?restq20FT_46
                  case hSq20FT_46 => (try dsimp only); first | exact HSA.out | exact HSAd.out | exact HSB.out _ (by assumption) | exact HSC.out _ _ (by assumption) (by assumption)
                  clear hK K hHeld
                  intro hHeld
                  try simp only [Act.put, List.setIfInBounds_toArray, List.set_cons_zero, List.set_cons_succ]
                  refine tk 46 ⟨some 142, .pick (.tmp 131) (.tmp 141) (.const (.bool false)), 4, "law.go:115", #[⟨35, .data⟩, ⟨45, .data⟩, ⟨32, .guard⟩], some (32, false)⟩ (.bool false) rfl (fun _ _ _ h => h) (.inl ⟨by rfl, ?yq20FT_47⟩) (by assumption) ?rq20FT_47
                  case yq20FT_47 => intro w hSw; go_simp; try with_reducible rfl
                  try simp only [Act.put, List.setIfInBounds_toArray, List.set_cons_zero, List.set_cons_succ]
                  refine tk 47 ⟨some 143, .pick (.tmp 128) (.const (.bool true)) (.tmp 142), 4, "law.go:115", #[⟨32, .data⟩, ⟨46, .data⟩], none⟩ (.bool false) rfl (fun _ _ _ h => h) (.inl ⟨by rfl, ?yq20FT_48⟩) (by assumption) ?rq20FT_48
                  case yq20FT_48 => intro w hSw; go_simp; try with_reducible rfl
                  try simp only [Act.put, List.setIfInBounds_toArray, List.set_cons_zero, List.set_cons_succ]
                  refine wpAnyH_done (by kernel_rfl) ?_ _
                  refine NoPanic.normal ?_
                  go_wp2_with fail
                  have HB8 : Hid (Below WC.heap.size WC w8) := ⟨b8.os, b8.tape, b8.output, b8.size, b8.block⟩
                  go_roundw
                  case rel => exact ⟨j + 1, by go_num, by omega, next HBJ.out (next HB7.out (next HB8.out b9))⟩
                  case measure => simp [intOf]; omega
                · have hb' : ¬ (0 : Int) < (j : Int) := by omega
                  have hj0 : decide ((0 : Int) < (j : Int)) = false := decide_eq_false hb'
                  have HSA : Hid (Cells4 gn gl gc i j (j) s x x p WC) := ⟨q1, q2, q3, q2⟩
                  have HSAd : Hid (Cells4 gn gl gc i j (j) s x x p WC.drew) := HSA.out
                  have HSB : Hid (∀ W, Below WC.drew.heap.size WC.drew W → Cells4 gn gl gc i j (j) s x x p W) := fun W b => HSAd.out.below b
                  have HSC : Hid (∀ W W', Below WC.drew.heap.size WC.drew W → Below W.heap.size W W' → Cells4 gn gl gc i j (j) s x x p W') := fun W W' b b' => (HSB.out W b).below b'
                  clear q1 q2 q3
                  go_upto_region 20 with (fail)
                  refine wp_region_noPanic ?_
                  refine wp_region_held_drew (S := (Cells4 gn gl gc i j (j) s x x p)) (by kernel_rfl) ?_ (fun hHeld => ?_)
                  · (try dsimp only); first | exact HSA.out | exact HSAd.out | exact HSB.out _ (by assumption) | exact HSC.out _ _ (by assumption) (by assumption)
                  refine tk 0 ⟨some 96, .move (.tmp 13), 4, "law.go:115", #[], none⟩ (?vq20FF_1) rfl (fun _ _ _ h => h) (.inl ⟨by rfl, ?yq20FF_1⟩) (by assumption) ?rq20FF_1
                  case yq20FF_1 => intro w hSw; go_simp; try with_reducible rfl
                  try simp only [Act.put, List.setIfInBounds_toArray, List.set_cons_zero, List.set_cons_succ]
                  refine tk 1 ⟨some 97, .unOp .not 4 (.tmp 96), 4, "law.go:115", #[⟨0, .data⟩], none⟩ (?vq20FF_2) rfl (fun _ _ _ h => h) (.inl ⟨by rfl, ?yq20FF_2⟩) (by assumption) ?rq20FF_2
                  case yq20FF_2 => intro w hSw; go_simp; try with_reducible rfl
                  try simp only [Act.put, List.setIfInBounds_toArray, List.set_cons_zero, List.set_cons_succ]
                  refine tk 2 ⟨some 98, .move (.tmp 97), 4, "law.go:115", #[⟨1, .data⟩], none⟩ (?vq20FF_3) rfl (fun _ _ _ h => h) (.inl ⟨by rfl, ?yq20FF_3⟩) (by assumption) ?rq20FF_3
                  case yq20FF_3 => intro w hSw; go_simp; try with_reducible rfl
                  try simp only [Act.put, List.setIfInBounds_toArray, List.set_cons_zero, List.set_cons_succ]
                  refine tk 3 ⟨some 99, .move (.tmp 5), 24, "law.go:115", #[⟨2, .guard⟩], some (2, false)⟩ (?vq20FF_4) rfl (fun _ _ _ h => h) (.inl ⟨by rfl, ?yq20FF_4⟩) (by assumption) ?rq20FF_4
                  case yq20FF_4 => intro w hSw; go_simp; try with_reducible rfl
                  try simp only [Act.put, List.setIfInBounds_toArray, List.set_cons_zero, List.set_cons_succ]
                  refine tk 4 ⟨some 100, .move (.tmp 8), 34, "law.go:115", #[⟨2, .guard⟩], some (2, false)⟩ (?vq20FF_5) rfl (fun _ _ _ h => h) (.inl ⟨by rfl, ?yq20FF_5⟩) (by assumption) ?rq20FF_5
                  case yq20FF_5 => intro w hSw; go_simp; try with_reducible rfl
                  try simp only [Act.put, List.setIfInBounds_toArray, List.set_cons_zero, List.set_cons_succ]
                  refine tk 5 ⟨some 101, .move (.tmp 9), 3, "law.go:115", #[⟨2, .guard⟩], some (2, false)⟩ (?vq20FF_6) rfl (fun _ _ _ h => h) (.inl ⟨by rfl, ?yq20FF_6⟩) (by assumption) ?rq20FF_6
                  case yq20FF_6 => intro w hSw; go_simp; try with_reducible rfl
                  try simp only [Act.put, List.setIfInBounds_toArray, List.set_cons_zero, List.set_cons_succ]
                  refine tk 6 ⟨some 102, .indexAddr 34 (.tmp 100) (.tmp 101), 0, "law.go:115", #[⟨4, .data⟩, ⟨5, .data⟩, ⟨2, .guard⟩], some (2, false)⟩ (?vq20FF_7) rfl (fun _ _ _ h => h) (.inl ⟨by rfl, ?yq20FF_7⟩) (by assumption) ?rq20FF_7
                  case yq20FF_7 => intro w hSw; go_simp; try with_reducible rfl
                  try simp only [Act.put, List.setIfInBounds_toArray, List.set_cons_zero, List.set_cons_succ]
                  refine tk 7 ⟨some 103, .load 9 (.tmp 102), 9, "law.go:115", #[⟨6, .data⟩, ⟨2, .guard⟩], some (2, false)⟩ (?vq20FF_8) rfl (fun _ _ _ h => h) (.inl ⟨by rfl, ?yq20FF_8⟩) (by assumption) ?rq20FF_8
                  case yq20FF_8 => intro w hSw; go_simp; obtain ⟨S1, S2, S3, S4⟩ := hSw; go_simp; try with_reducible rfl
                  try simp only [Act.put, List.setIfInBounds_toArray, List.set_cons_zero, List.set_cons_succ]
                  refine tk 8 ⟨some 104, .move (.tmp 10), 34, "law.go:115", #[⟨2, .guard⟩], some (2, false)⟩ (?vq20FF_9) rfl (fun _ _ _ h => h) (.inl ⟨by rfl, ?yq20FF_9⟩) (by assumption) ?rq20FF_9
                  case yq20FF_9 => intro w hSw; go_simp; try with_reducible rfl
                  try simp only [Act.put, List.setIfInBounds_toArray, List.set_cons_zero, List.set_cons_succ]
                  refine tk 9 ⟨some 105, .move (.tmp 11), 3, "law.go:115", #[⟨2, .guard⟩], some (2, false)⟩ (?vq20FF_10) rfl (fun _ _ _ h => h) (.inl ⟨by rfl, ?yq20FF_10⟩) (by assumption) ?rq20FF_10
                  case yq20FF_10 => intro w hSw; go_simp; try with_reducible rfl
                  try simp only [Act.put, List.setIfInBounds_toArray, List.set_cons_zero, List.set_cons_succ]
                  refine tk 10 ⟨some 106, .indexAddr 34 (.tmp 104) (.tmp 105), 0, "law.go:115", #[⟨8, .data⟩, ⟨9, .data⟩, ⟨2, .guard⟩], some (2, false)⟩ (?vq20FF_11) rfl (fun _ _ _ h => h) (.inl ⟨by rfl, ?yq20FF_11⟩) (by assumption) ?rq20FF_11
                  case yq20FF_11 => intro w hSw; go_simp; try with_reducible rfl
                  try simp only [Act.put, List.setIfInBounds_toArray, List.set_cons_zero, List.set_cons_succ]
                  refine tk 11 ⟨some 107, .load 9 (.tmp 106), 9, "law.go:115", #[⟨10, .data⟩, ⟨2, .guard⟩], some (2, false)⟩ (?vq20FF_12) rfl (fun _ _ _ h => h) (.inl ⟨by rfl, ?yq20FF_12⟩) (by assumption) ?rq20FF_12
                  case yq20FF_12 => intro w hSw; go_simp; obtain ⟨S1, S2, S3, S4⟩ := hSw; go_simp; try with_reducible rfl
                  try simp only [Act.put, List.setIfInBounds_toArray, List.set_cons_zero, List.set_cons_succ]
                  refine wpAnyH_ready (rs := [12]) (by kernel_rfl) (by simp) ?_
                  refine AllReadyH.cons (o := ⟨some 108, .call { callee := .value (.func 10), args := #[.tmp 99, .tmp 103, .tmp 107], argTypes := #[24, 9, 9] }, 4, "law.go:115", #[⟨3, .data⟩, ⟨7, .data⟩, ⟨11, .data⟩, ⟨2, .chain⟩, ⟨2, .guard⟩], some (2, false)⟩) rfl (fun K hK => ?_) AllReadyH.nil
                  go_simp
                  go_at_call 10; refine (SU1.out _ (Below.refl _ _)).mono ?_; rintro e w8 ⟨rfl, b8⟩
                  try go_wp2_with fail
                  refine hK.out _ _ ?hSq20FF_13 ?restq20FF_13
                  case hSq20FF_13 => (try dsimp only); first | exact HSA.out | exact HSAd.out | exact HSB.out _ (by assumption) | exact HSC.out _ _ (by assumption) (by assumption)
                  clear hK K hHeld
                  intro hHeld
                  try simp only [Act.put, List.setIfInBounds_toArray, List.set_cons_zero, List.set_cons_succ]
                  refine tk 13 ⟨some 109, .unOp .not 4 (.tmp 108), 4, "law.go:115", #[⟨12, .data⟩, ⟨2, .guard⟩], some (2, false)⟩ (?vq20FF_14) rfl (fun _ _ _ h => h) (.inl ⟨by rfl, ?yq20FF_14⟩) (by assumption) ?rq20FF_14
                  case yq20FF_14 => intro w hSw; go_simp; try with_reducible rfl
                  try simp only [Act.put, List.setIfInBounds_toArray, List.set_cons_zero, List.set_cons_succ]
                  refine tk 14 ⟨some 110, .pick (.tmp 98) (.const (.bool true)) (.tmp 109), 4, "law.go:115", #[⟨2, .data⟩, ⟨13, .data⟩], none⟩ (?vq20FF_15) rfl (fun _ _ _ h => h) (.inl ⟨by rfl, ?yq20FF_15⟩) (by assumption) ?rq20FF_15
                  case yq20FF_15 => intro w hSw; go_simp; try with_reducible rfl
                  try simp only [Act.put, List.setIfInBounds_toArray, List.set_cons_zero, List.set_cons_succ]
                  refine tk 15 ⟨some 111, .move (.tmp 110), 4, "law.go:115", #[⟨14, .data⟩, ⟨12, .chain⟩], none⟩ (?vq20FF_16) rfl (fun _ _ _ h => h) (.inl ⟨by rfl, ?yq20FF_16⟩) (by assumption) ?rq20FF_16
                  case yq20FF_16 => intro w hSw; go_simp; try with_reducible rfl
                  try simp only [Act.put, List.setIfInBounds_toArray, List.set_cons_zero, List.set_cons_succ]
                  refine tk 16 ⟨some 112, .move (.tmp 11), 3, "law.go:115", #[⟨15, .guard⟩], some (15, false)⟩ (?vq20FF_17) rfl (fun _ _ _ h => h) (.inl ⟨by rfl, ?yq20FF_17⟩) (by assumption) ?rq20FF_17
                  case yq20FF_17 => intro w hSw; go_simp; try with_reducible rfl
                  try simp only [Act.put, List.setIfInBounds_toArray, List.set_cons_zero, List.set_cons_succ]
                  refine tk 17 ⟨some 113, .binOp .add 3 (.tmp 112) (.const (.int .i64 1)) 3, 3, "law.go:115", #[⟨16, .data⟩, ⟨15, .guard⟩], some (15, false)⟩ (.int .i64 ((j : Int) + 1)) rfl (fun _ _ _ h => h) (.inl ⟨by rfl, ?yq20FF_18⟩) (by assumption) ?rq20FF_18
                  case yq20FF_18 => intro w hSw; go_simp; first | done | exact hw2 | (simp only [hw2])
                  try simp only [Act.put, List.setIfInBounds_toArray, List.set_cons_zero, List.set_cons_succ]
                  refine tk 18 ⟨some 114, .move (.tmp 10), 34, "law.go:115", #[⟨15, .guard⟩], some (15, false)⟩ (?vq20FF_19) rfl (fun _ _ _ h => h) (.inl ⟨by rfl, ?yq20FF_19⟩) (by assumption) ?rq20FF_19
                  case yq20FF_19 => intro w hSw; go_simp; try with_reducible rfl
                  try simp only [Act.put, List.setIfInBounds_toArray, List.set_cons_zero, List.set_cons_succ]
                  refine tk 19 ⟨some 115, .call { callee := .builtin .len, args := #[.tmp 114], argTypes := #[34] }, 3, "law.go:115", #[⟨18, .data⟩, ⟨15, .guard⟩], some (15, false)⟩ (?vq20FF_20) rfl (fun _ _ _ h => h) (.inl ⟨by rfl, ?yq20FF_20⟩) (by assumption) ?rq20FF_20
                  case yq20FF_20 => intro w hSw; go_simp; try with_reducible rfl
                  try simp only [Act.put, List.setIfInBounds_toArray, List.set_cons_zero, List.set_cons_succ]
                  refine tk 20 ⟨some 116, .binOp .lss 3 (.tmp 113) (.tmp 115) 3, 4, "law.go:115", #[⟨17, .data⟩, ⟨19, .data⟩, ⟨15, .guard⟩], some (15, false)⟩ (.bool false) rfl (fun _ _ _ h => h) (.inl ⟨by rfl, ?yq20FF_21⟩) (by assumption) ?rq20FF_21
                  case yq20FF_21 => intro w hSw; go_simp; first | done | (simp only [hj1]) | simp
                  try simp only [Act.put, List.setIfInBounds_toArray, List.set_cons_zero, List.set_cons_succ]
                  refine tk 21 ⟨some 117, .move (.tmp 116), 4, "law.go:115", #[⟨20, .data⟩, ⟨15, .chain⟩, ⟨15, .guard⟩], some (15, false)⟩ (.bool false) rfl (fun _ _ _ h => h) (.inl ⟨by rfl, ?yq20FF_22⟩) (by assumption) ?rq20FF_22
                  case yq20FF_22 => intro w hSw; go_simp; try with_reducible rfl
                  try simp only [Act.put, List.setIfInBounds_toArray, List.set_cons_zero, List.set_cons_succ]
                  refine tk 22 ⟨some 118, .fieldAddr 33 (.tmp 12) 1, 0, "law.go:115", #[⟨21, .guard⟩], some (21, true)⟩ undef rfl (fun _ _ _ h => h) (.inr ⟨by rfl, rfl⟩) (by assumption) ?rq20FF_23; try simp only [Act.put, List.setIfInBounds_toArray, List.set_cons_zero, List.set_cons_succ]
                  refine tk 23 ⟨some 119, .load 9 (.tmp 118), 9, "law.go:115", #[⟨22, .data⟩, ⟨21, .guard⟩], some (21, true)⟩ undef rfl (fun _ _ _ h => h) (.inr ⟨by rfl, rfl⟩) (by assumption) ?rq20FF_24; try simp only [Act.put, List.setIfInBounds_toArray, List.set_cons_zero, List.set_cons_succ]
                  refine tk 24 ⟨some 120, .move (.tmp 10), 34, "law.go:115", #[⟨21, .guard⟩], some (21, true)⟩ undef rfl (fun _ _ _ h => h) (.inr ⟨by rfl, rfl⟩) (by assumption) ?rq20FF_25; try simp only [Act.put, List.setIfInBounds_toArray, List.set_cons_zero, List.set_cons_succ]
                  refine tk 25 ⟨some 121, .move (.tmp 11), 3, "law.go:115", #[⟨21, .guard⟩], some (21, true)⟩ undef rfl (fun _ _ _ h => h) (.inr ⟨by rfl, rfl⟩) (by assumption) ?rq20FF_26; try simp only [Act.put, List.setIfInBounds_toArray, List.set_cons_zero, List.set_cons_succ]
                  refine tk 26 ⟨some 122, .binOp .add 3 (.tmp 121) (.const (.int .i64 1)) 3, 3, "law.go:115", #[⟨25, .data⟩, ⟨21, .guard⟩], some (21, true)⟩ undef rfl (fun _ _ _ h => h) (.inr ⟨by rfl, rfl⟩) (by assumption) ?rq20FF_27; try simp only [Act.put, List.setIfInBounds_toArray, List.set_cons_zero, List.set_cons_succ]
                  refine tk 27 ⟨some 123, .indexAddr 34 (.tmp 120) (.tmp 122), 0, "law.go:115", #[⟨24, .data⟩, ⟨26, .data⟩, ⟨21, .guard⟩], some (21, true)⟩ undef rfl (fun _ _ _ h => h) (.inr ⟨by rfl, rfl⟩) (by assumption) ?rq20FF_28; try simp only [Act.put, List.setIfInBounds_toArray, List.set_cons_zero, List.set_cons_succ]
                  refine tk 28 ⟨some 124, .load 9 (.tmp 123), 9, "law.go:115", #[⟨27, .data⟩, ⟨21, .guard⟩], some (21, true)⟩ undef rfl (fun _ _ _ h => h) (.inr ⟨by rfl, rfl⟩) (by assumption) ?rq20FF_29; try simp only [Act.put, List.setIfInBounds_toArray, List.set_cons_zero, List.set_cons_succ]
                  refine tk 29 ⟨some 125, .binOp .neq 9 (.tmp 119) (.tmp 124) 9, 4, "law.go:115", #[⟨23, .data⟩, ⟨28, .data⟩, ⟨21, .guard⟩], some (21, true)⟩ undef rfl (fun _ _ _ h => h) (.inr ⟨by rfl, rfl⟩) (by assumption) ?rq20FF_30; try simp only [Act.put, List.setIfInBounds_toArray, List.set_cons_zero, List.set_cons_succ]
                  refine tk 30 ⟨some 126, .pick (.tmp 117) (.tmp 125) (.const (.bool false)), 4, "law.go:115", #[⟨21, .data⟩, ⟨29, .data⟩, ⟨15, .guard⟩], some (15, false)⟩ (.bool false) rfl (fun _ _ _ h => h) (.inl ⟨by rfl, ?yq20FF_31⟩) (by assumption) ?rq20FF_31
                  case yq20FF_31 => intro w hSw; go_simp; try with_reducible rfl
                  try simp only [Act.put, List.setIfInBounds_toArray, List.set_cons_zero, List.set_cons_succ]
                  refine tk 31 ⟨some 127, .pick (.tmp 111) (.const (.bool true)) (.tmp 126), 4, "law.go:115", #[⟨15, .data⟩, ⟨30, .data⟩], none⟩ (.bool false) rfl (fun _ _ _ h => h) (.inl ⟨by rfl, ?yq20FF_32⟩) (by assumption) ?rq20FF_32
                  case yq20FF_32 => intro w hSw; go_simp; try with_reducible rfl
                  try simp only [Act.put, List.setIfInBounds_toArray, List.set_cons_zero, List.set_cons_succ]
                  refine tk 32 ⟨some 128, .move (.tmp 127), 4, "law.go:115", #[⟨31, .data⟩, ⟨21, .chain⟩], none⟩ (.bool false) rfl (fun _ _ _ h => h) (.inl ⟨by rfl, ?yq20FF_33⟩) (by assumption) ?rq20FF_33
                  case yq20FF_33 => intro w hSw; go_simp; try with_reducible rfl
                  try simp only [Act.put, List.setIfInBounds_toArray, List.set_cons_zero, List.set_cons_succ]
                  refine tk 33 ⟨some 129, .move (.tmp 11), 3, "law.go:115", #[⟨32, .guard⟩], some (32, false)⟩ (?vq20FF_34) rfl (fun _ _ _ h => h) (.inl ⟨by rfl, ?yq20FF_34⟩) (by assumption) ?rq20FF_34
                  case yq20FF_34 => intro w hSw; go_simp; try with_reducible rfl
                  try simp only [Act.put, List.setIfInBounds_toArray, List.set_cons_zero, List.set_cons_succ]
                  refine tk 34 ⟨some 130, .binOp .gtr 3 (.tmp 129) (.const (.int .i64 0)) 3, 4, "law.go:115", #[⟨33, .data⟩, ⟨32, .guard⟩], some (32, false)⟩ (.bool false) rfl (fun _ _ _ h => h) (.inl ⟨by rfl, ?yq20FF_35⟩) (by assumption) ?rq20FF_35
                  case yq20FF_35 => intro w hSw; go_simp; first | done | (simp only [hj0]) | simp
                  try simp only [Act.put, List.setIfInBounds_toArray, List.set_cons_zero, List.set_cons_succ]
                  refine tk 35 ⟨some 131, .move (.tmp 130), 4, "law.go:115", #[⟨34, .data⟩, ⟨32, .chain⟩, ⟨32, .guard⟩], some (32, false)⟩ (.bool false) rfl (fun _ _ _ h => h) (.inl ⟨by rfl, ?yq20FF_36⟩) (by assumption) ?rq20FF_36
                  case yq20FF_36 => intro w hSw; go_simp; try with_reducible rfl
                  try simp only [Act.put, List.setIfInBounds_toArray, List.set_cons_zero, List.set_cons_succ]
                  refine tk 36 ⟨some 132, .move (.tmp 5), 24, "law.go:115", #[⟨35, .guard⟩], some (35, true)⟩ undef rfl (fun _ _ _ h => h) (.inr ⟨by rfl, rfl⟩) (by assumption) ?rq20FF_37; try simp only [Act.put, List.setIfInBounds_toArray, List.set_cons_zero, List.set_cons_succ]
                  refine tk 37 ⟨some 133, .move (.tmp 10), 34, "law.go:115", #[⟨35, .guard⟩], some (35, true)⟩ undef rfl (fun _ _ _ h => h) (.inr ⟨by rfl, rfl⟩) (by assumption) ?rq20FF_38; try simp only [Act.put, List.setIfInBounds_toArray, List.set_cons_zero, List.set_cons_succ]
                  refine tk 38 ⟨some 134, .move (.tmp 11), 3, "law.go:115", #[⟨35, .guard⟩], some (35, true)⟩ undef rfl (fun _ _ _ h => h) (.inr ⟨by rfl, rfl⟩) (by assumption) ?rq20FF_39; try simp only [Act.put, List.setIfInBounds_toArray, List.set_cons_zero, List.set_cons_succ]
                  refine tk 39 ⟨some 135, .indexAddr 34 (.tmp 133) (.tmp 134), 0, "law.go:115", #[⟨37, .data⟩, ⟨38, .data⟩, ⟨35, .guard⟩], some (35, true)⟩ undef rfl (fun _ _ _ h => h) (.inr ⟨by rfl, rfl⟩) (by assumption) ?rq20FF_40; try simp only [Act.put, List.setIfInBounds_toArray, List.set_cons_zero, List.set_cons_succ]
                  refine tk 40 ⟨some 136, .load 9 (.tmp 135), 9, "law.go:115", #[⟨39, .data⟩, ⟨35, .guard⟩], some (35, true)⟩ undef rfl (fun _ _ _ h => h) (.inr ⟨by rfl, rfl⟩) (by assumption) ?rq20FF_41; try simp only [Act.put, List.setIfInBounds_toArray, List.set_cons_zero, List.set_cons_succ]
                  refine tk 41 ⟨some 137, .move (.tmp 8), 34, "law.go:115", #[⟨35, .guard⟩], some (35, true)⟩ undef rfl (fun _ _ _ h => h) (.inr ⟨by rfl, rfl⟩) (by assumption) ?rq20FF_42; try simp only [Act.put, List.setIfInBounds_toArray, List.set_cons_zero, List.set_cons_succ]
                  refine tk 42 ⟨some 138, .move (.tmp 9), 3, "law.go:115", #[⟨35, .guard⟩], some (35, true)⟩ undef rfl (fun _ _ _ h => h) (.inr ⟨by rfl, rfl⟩) (by assumption) ?rq20FF_43; try simp only [Act.put, List.setIfInBounds_toArray, List.set_cons_zero, List.set_cons_succ]
                  refine tk 43 ⟨some 139, .indexAddr 34 (.tmp 137) (.tmp 138), 0, "law.go:115", #[⟨41, .data⟩, ⟨42, .data⟩, ⟨35, .guard⟩], some (35, true)⟩ undef rfl (fun _ _ _ h => h) (.inr ⟨by rfl, rfl⟩) (by assumption) ?rq20FF_44; try simp only [Act.put, List.setIfInBounds_toArray, List.set_cons_zero, List.set_cons_succ]
                  refine tk 44 ⟨some 140, .load 9 (.tmp 139), 9, "law.go:115", #[⟨43, .data⟩, ⟨35, .guard⟩], some (35, true)⟩ undef rfl (fun _ _ _ h => h) (.inr ⟨by rfl, rfl⟩) (by assumption) ?rq20FF_45; try simp only [Act.put, List.setIfInBounds_toArray, List.set_cons_zero, List.set_cons_succ]
                  refine tk 45 ⟨some 141, .call { callee := .value (.func 10), args := #[.tmp 132, .tmp 136, .tmp 140], argTypes := #[24, 9, 9] }, 4, "law.go:115", #[⟨36, .data⟩, ⟨40, .data⟩, ⟨44, .data⟩, ⟨35, .chain⟩, ⟨35, .guard⟩], some (35, true)⟩ undef rfl (fun _ _ _ h => h) (.inr ⟨by rfl, rfl⟩) (by assumption) ?rq20FF_46; try simp only [Act.put, List.setIfInBounds_toArray, List.set_cons_zero, List.set_cons_succ]
                  refine tk 46 ⟨some 142, .pick (.tmp 131) (.tmp 141) (.const (.bool false)), 4, "law.go:115", #[⟨35, .data⟩, ⟨45, .data⟩, ⟨32, .guard⟩], some (32, false)⟩ (.bool false) rfl (fun _ _ _ h => h) (.inl ⟨by rfl, ?yq20FF_47⟩) (by assumption) ?rq20FF_47
                  case yq20FF_47 => intro w hSw; go_simp; try with_reducible rfl
                  try simp only [Act.put, List.setIfInBounds_toArray, List.set_cons_zero, List.set_cons_succ]
                  refine tk 47 ⟨some 143, .pick (.tmp 128) (.const (.bool true)) (.tmp 142), 4, "law.go:115", #[⟨32, .data⟩, ⟨46, .data⟩], none⟩ (.bool false) rfl (fun _ _ _ h => h) (.inl ⟨by rfl, ?yq20FF_48⟩) (by assumption) ?rq20FF_48
                  case yq20FF_48 => intro w hSw; go_simp; try with_reducible rfl
                  try simp only [Act.put, List.setIfInBounds_toArray, List.set_cons_zero, List.set_cons_succ]
                  refine wpAnyH_done (by kernel_rfl) ?_ _
                  refine NoPanic.normal ?_
                  go_wp2_with fail
                  have HB8 : Hid (Below WC.heap.size WC w8) := ⟨b8.os, b8.tape, b8.output, b8.size, b8.block⟩
                  go_roundw
                  case rel => exact ⟨j + 1, by go_num, by omega, next HBJ.out (next HB7.out HB8.out)⟩
                  case measure => simp [intOf]; omega
            · have hjl' : ¬ (j : Int) < (L.length : Int) := by omega
              go_wp2_with fail
              go_roundw
              case rel => exact ⟨i + 1, by go_num, by omega, next HB5.out (next HB6.out HBJ.out)⟩
              case measure => simp [intOf]; omega
        · have hlt' : ¬ (i : Int) < (RR.length : Int) := by omega
          go_wp2_with (go_at_call 12; refine (known_any _).mono ?_; rintro e w9 ⟨rfl, b9⟩)
          go_ret
          exact ⟨rfl, HBW.out.trans ((next HB4.out (next HBI.out b9)).mono hn0)⟩
end Go.Proofs.YtbmfkbgncjldjabGreat.K
