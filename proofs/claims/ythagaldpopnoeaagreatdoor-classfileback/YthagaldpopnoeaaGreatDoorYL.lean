import Derived.Test.YthagaldpopnoeaaGreatDoorMN
import Derived.Deep.CutRange

/- Lists that are read: how they lie, and that they stay. -/
namespace Go.Proofs.YthagaldpopnoeaaGreatDoor
open Go.RowKit D

/-- Blocks of that type stand. -/
def Same (T : TypeId) (w w' : World) : Prop := ∀ (g : Nat) (cur : Array Value), w.heap[g]? = some (.cells cur T (0, 0)) → w'.heap[g]? = some (.cells cur T (0, 0))
theorem Same.refl (T : TypeId) (w : World) : Same T w w := fun _ _ h => h
theorem Same.trans {T : TypeId} {a b c : World} (h : Same T a b) (k : Same T b c) : Same T a c := fun g cur hg => k g cur (h g cur hg)
theorem Same.of_below {T : TypeId} {w w' : World} (h : Below w.heap.size w w') : Same T w w' := fun g _ hg => (h.block g (Array.getElem?_eq_some_iff.1 hg).1).trans hg
theorem own_same {w w' : World} {B T s n : Nat} {v : Value} {xs : List Value} (h : w.ownsRow B T s v n xs) (k : Same T w w') : w'.ownsRow B T s v n xs := by
  refine ⟨h.1, ?_⟩
  rcases h.2 with x | ⟨g, cap, cur, rfl, hB, hg, r⟩
  · exact .inl x
  · exact .inr ⟨g, cap, cur, rfl, hB, k g cur hg, r⟩
theorem own_zero {w : World} {B B' T s n : Nat} {v : Value} {xs : List Value} (h : w.ownsRow B T s v n xs) (hB : B' ≤ B) : w.ownsRow B' T s v n xs := by
  refine ⟨h.1, ?_⟩
  rcases h.2 with x | ⟨g, cap, cur, rfl, hb, r⟩
  · exact .inl x
  · exact .inr ⟨g, cap, cur, rfl, by omega, r⟩
theorem Same.of_only {pr : Nat} {w w' : World} {v : Value} {l : List Int} {a : Nat} {y : Int} (h : IsR pr w v l a y) (o : Only pr w w') {T : TypeId} (hT : T ≠ 123) : Same T w w' := fun g cur hg => by
  have hne : g ≠ pr := by
    rintro rfl
    rw [h.blk] at hg
    cases hg
    exact hT rfl
  exact (o.block g (Array.getElem?_eq_some_iff.1 hg).1 hne).trans hg
theorem Same.of_grown {w w' : World} {B U s n : Nat} {v : Value} {xs : List Value} {o : Obj} (own : w.ownsRow B U s v n xs) (h : (w.alloc o).grownBy w' v.ownBlock) {T : TypeId} (hT : T ≠ U) : Same T w w' := fun g cur hg => by
  have hlt := (Array.getElem?_eq_some_iff.1 hg).1
  have hne : some g ≠ v.ownBlock := by
    intro e
    rcases own.2 with ⟨rfl, _⟩ | ⟨g', _, _, rfl, _, h1, _⟩
    · cases e
    · cases e
      rw [h1] at hg
      cases hg
      exact hT rfl
  exact (h.block g (by simp; omega) hne).trans ((heap_alloc_old w _ hlt).trans hg)

/-- A list lies in a row of one's own: one row of k cells for each. -/
def OL {α : Type} (B T k : Nat) (R : World → List Value → α → Prop) (w : World) (v : Value) (l : List α) : Prop :=
  ∃ rows : List (List Value), w.ownsRow B T k v l.length rows.flatten ∧ rows.length = l.length ∧ (∀ r ∈ rows, r.length = k) ∧ ∀ (i : Nat) r x, rows[i]? = some r → l[i]? = some x → R w r x
theorem OL.nil {α : Type} (B T k : Nat) (R : World → List Value → α → Prop) (w : World) : OL B T k R w (.slice none 0 0) ([] : List α) :=
  ⟨[], World.ownsRow_nil _ _ _ _, rfl, by simp, by simp⟩
theorem OL.same {α : Type} {B T k : Nat} {R : World → List Value → α → Prop} {w w' : World} {v : Value} {l : List α} (h : OL B T k R w v l) (s : Same T w w') (hR : ∀ r x, R w r x → R w' r x) : OL B T k R w' v l := by
  obtain ⟨rows, h1, h2, h3, h4⟩ := h
  exact ⟨rows, own_same h1 s, h2, h3, fun i r x hr hx => hR _ _ (h4 i r x hr hx)⟩
theorem OL.base {α : Type} {B B' T k : Nat} {R : World → List Value → α → Prop} {w : World} {v : Value} {l : List α} (h : OL B T k R w v l) (hB : B' ≤ B) : OL B' T k R w v l := by
  obtain ⟨rows, h1, h2, h3, h4⟩ := h
  exact ⟨rows, own_zero h1 hB, h2, h3, h4⟩
theorem OL.slice {α : Type} {B T k : Nat} {R : World → List Value → α → Prop} {w : World} {v : Value} {l : List α} (h : OL B T k R w v l) : ∃ ao cap, v = .slice ao l.length cap := by
  obtain ⟨rows, h1, _⟩ := h
  exact slice_of_own h1
/-- One more. -/
theorem OL.snoc {α : Type} {B T k : Nat} {R : World → List Value → α → Prop} {w w' : World} {v' : Value} {l : List α} {x : α} {rows : List (List Value)} {r : List Value} (h2 : rows.length = l.length) (h3 : ∀ r ∈ rows, r.length = k)
    (h4 : ∀ (i : Nat) r x, rows[i]? = some r → l[i]? = some x → R w r x) (o : w'.ownsRow B T k v' (l.length + 1) (rows.flatten ++ r)) (hr : r.length = k) (hx : R w' r x) (hR : ∀ r x, R w r x → R w' r x) : OL B T k R w' v' (l ++ [x]) := by
  refine ⟨rows ++ [r], ?_, by simp [h2], ?_, ?_⟩
  · rw [List.length_append, List.flatten_append]; simpa using o
  · intro q hq
    rcases List.mem_append.1 hq with h | h
    · exact h3 q h
    · simp at h; subst h; exact hr
  · intro i q z hq hz
    by_cases hi : i < rows.length
    · rw [List.getElem?_append_left hi] at hq
      rw [List.getElem?_append_left (by omega)] at hz
      exact hR _ _ (h4 i q z hq hz)
    · rw [List.getElem?_append_right (by omega)] at hq
      rw [List.getElem?_append_right (by omega)] at hz
      have h0 : i - rows.length = 0 := by
        have := (List.getElem?_eq_some_iff.1 hq).1
        simp at this; omega
      rw [h0] at hq
      rw [show i - l.length = 0 by omega] at hz
      simp at hq hz
      subst hq; subst hz
      exact hx
theorem flatten_get {k : Nat} : ∀ (rows : List (List Value)) (j : Nat) (r : List Value) (i : Nat), (∀ r ∈ rows, r.length = k) → rows[j]? = some r → i < k → rows.flatten[j * k + i]? = r[i]? := by
  intro rows
  induction rows with
  | nil => intro j r i _ h; simp at h
  | cons q rows ih =>
    intro j r i hk h hi
    have hq := hk q (by simp)
    rw [List.flatten_cons]
    cases j with
    | zero =>
      simp at h; subst h
      rw [Nat.zero_mul, Nat.zero_add, List.getElem?_append_left (by omega)]
    | succ j =>
      simp at h
      rw [List.getElem?_append_right (by rw [Nat.succ_mul]; omega), hq, show (j + 1) * k + i - k = j * k + i by rw [Nat.succ_mul]; omega]
      exact ih j r i (fun r hr => hk r (by simp [hr])) h hi
/-- As the walks over classes see it. -/
theorem OL.lat {α : Type} {B T k : Nat} {R R' : World → List Value → α → Prop} {w : World} {v : Value} {l : List α} (h : OL B T k R w v l) (hR : ∀ r x, R w r x → R' w r x) : ∃ ao cap, v = .slice ao l.length cap ∧ LAt k R' w ao cap l := by
  obtain ⟨rows, h1, h2, h3, h4⟩ := h
  rcases h1.2 with ⟨rfl, h0⟩ | ⟨g, cap, cur, rfl, hB, hg, hc, hm, hs, ht⟩
  · have hl : l = [] := List.length_eq_zero_iff.1 h0
    subst hl
    exact ⟨none, 0, rfl, LAt.nil _ _ _ _ _ (Nat.zero_le _)⟩
  · refine ⟨_, cap, rfl, hc, hm, fun j => rows[j]?.getD [], fun _ => ⟨g, 0, rfl, (Array.getElem?_eq_some_iff.1 hg).1, fun j hj i u hu => ?_⟩, fun i x hx => ?_⟩
    · obtain ⟨r, hr⟩ : ∃ r, rows[j]? = some r := ⟨rows[j]'(by omega), List.getElem?_eq_getElem (by omega)⟩
      simp only [hr, Option.getD_some] at hu
      have hrk := h3 r (List.mem_of_getElem? hr)
      have hi : i < k := by rw [← hrk]; exact (List.getElem?_eq_some_iff.1 hu).1
      have e1 := flatten_get rows j r i h3 hr hi
      rw [← ht, List.getElem?_take] at e1
      have hlt : j * k + i < l.length * k := by
        have : (j + 1) * k ≤ l.length * k := Nat.mul_le_mul_right k hj
        rw [Nat.succ_mul] at this; omega
      rw [if_pos hlt, hu] at e1
      rw [Nat.zero_add]
      exact cell_row hg (j * k + i) (by simpa using e1)
    · obtain ⟨r, hr⟩ : ∃ r, rows[i]? = some r := ⟨rows[i]'(by rw [h2]; exact (List.getElem?_eq_some_iff.1 hx).1), List.getElem?_eq_getElem _⟩
      simp only [hr, Option.getD_some]
      exact hR _ _ (h4 i r x hr hx)

/-! What is read. -/
def rdList {α : Type} (one : Nat → Int → α × Nat × Int) : Nat → List α → Nat → Int → List α × Nat × Int
  | 0, acc, a, y => (acc, a, y)
  | k + 1, acc, a, y => rdList one k (acc ++ [(one a y).1]) (one a y).2.1 (one a y).2.2
def rdLs {α : Type} (l : List Int) (one : Nat → Int → α × Nat × Int) (a : Nat) (y : Int) : List α × Nat × Int :=
  rdList one (beVal (tk l a y 1).1).toNat [] (tk l a y 1).2.1 (tk l a y 1).2.2
def FrameQ (w : World) (r : List Value) (f : RD) : Prop :=
  ∃ v1 v2, r = [.int .i64 f.aT, v1, v2] ∧ OL 0 9 1 TextR w v1 f.loc ∧ OL 0 9 1 TextR w v2 f.stk
def MethQ (w : World) (r : List Value) (m : MD) : Prop :=
  ∃ v1 v2 v3, r = [.string m.nm, .string m.ds, .bool m.st, .bool m.nat, .int .i64 m.stk, .int .i64 m.loc, v1, v2, v3] ∧ m.nm.size ≤ 9223372036854775807 ∧ m.ds.size ≤ 9223372036854775807 ∧
    w.ownsRow 0 5 1 v1 m.code.length (bcells m.code) ∧ AllBytes m.code ∧ OL 0 71 4 HandR w v2 m.hs ∧ OL 0 74 3 FrameQ w v3 m.rs
theorem FrameQ.same {w w' : World} (h9 : Same 9 w w') {r : List Value} {f : RD} (h : FrameQ w r f) : FrameQ w' r f := by
  obtain ⟨v1, v2, e, h1, h2⟩ := h
  exact ⟨v1, v2, e, h1.same h9 (fun _ _ h => h), h2.same h9 (fun _ _ h => h)⟩
theorem MethQ.same {w w' : World} (h5 : Same 5 w w') (h71 : Same 71 w w') (h74 : Same 74 w w') (h9 : Same 9 w w') {r : List Value} {m : MD} (h : MethQ w r m) : MethQ w' r m := by
  obtain ⟨v1, v2, v3, e, s1, s2, h1, hb, h2, h3⟩ := h
  exact ⟨v1, v2, v3, e, s1, s2, own_same h1 h5, hb, h2.same h71 (fun _ _ h => h), h3.same h74 (fun _ _ h => h.same h9)⟩
theorem FrameQ.toR {w : World} {r : List Value} {f : RD} (h : FrameQ w r f) : FrameR w r f := by
  obtain ⟨v1, v2, e, h1, h2⟩ := h
  obtain ⟨o1, c1, rfl, l1⟩ := h1.lat (fun _ _ h => h)
  obtain ⟨o2, c2, rfl, l2⟩ := h2.lat (fun _ _ h => h)
  exact ⟨o1, c1, o2, c2, e, l1, l2⟩
theorem MethQ.toR {w : World} {r : List Value} {m : MD} (h : MethQ w r m) : MethR w r m := by
  obtain ⟨v1, v2, v3, e, s1, s2, h1, hb, h2, h3⟩ := h
  obtain ⟨o1, c1, rfl⟩ := own_slice h1
  obtain ⟨o2, c2, rfl, l2⟩ := h2.lat (fun _ _ h => h)
  obtain ⟨o3, c3, rfl, l3⟩ := h3.lat (fun _ _ h => h.toR)
  exact ⟨o1, c1, o2, c2, o3, c3, e, s1, s2, View.of_own h1 hb, l2, l3⟩
end Go.Proofs.YthagaldpopnoeaaGreatDoor

/- Lists, read: walked. -/
namespace Go.Proofs.YthagaldpopnoeaaGreatDoor
open Go.RowKit D

theorem Tryz.info9 : (Tryz.prog.info? 9).map (fun i => (i.zero, i.size, i.bytes)) = some (some (.string ⟨#[]⟩), 1, 16) := by kernel_rfl
set_option maxRecDepth 8000 in
set_option maxHeartbeats 2000000 in
theorem rd_listS (pr : Nat) (v : Value) (l : List Int) (one : Nat → Int → ByteArray × Nat × Int)
    (hone : ∀ (W : World) (a : Nat) (y : Int), IsR pr W v l a y → Calls Tryz.prog 68 #[.pointer (some ⟨pr, 0, none⟩)] W fun e w' => (e = .returned (.string (one a y).1) ∧ TextR w' [.string (one a y).1] (one a y).1) ∧ IsR pr w' v l (one a y).2.1 (one a y).2.2 ∧ Only pr W w')
    (a : Nat) (y : Int) (w : World) (h : IsR pr w v l a y) :
    Calls Tryz.prog 159 #[rv pr, .func (.func 68) #[.pointer (some ⟨pr, 0, none⟩)] #[]] w fun e w' => ∃ u, e = .returned u ∧ OL w.heap.size 9 1 TextR w' u (rdLs l one a y).1 ∧ IsR pr w' v l (rdLs l one a y).2.1 (rdLs l one a y).2.2 ∧ Only pr w w' := by
  obtain ⟨i0, hi, hz0, hz1, hz2⟩ := info_parts Tryz.info9
  have hby : AllBytes l := by obtain ⟨_, _, _, _, _, h, _⟩ := h.view; exact h
  have hbv := beVal_one (tk l a y 1).1 (tk_bytes _ _ _ _ hby) (by have := (tk_len l a y 1).1; omega)
  have hN := fun o => D.hidIt (rd_byte pr v l a y (w.alloc o) (h.below (balloc w o)))
  have HONE := D.hidIt hone
  have HP : Hid (rdLs l one a y = rdList one (beVal (tk l a y 1).1).toNat [] (tk l a y 1).2.1 (tk l a y 1).2.2) := rfl
  clear hone
  generalize rdLs l one a y = RES at *
  generalize tk l a y 1 = TT at *
  obtain ⟨bs, a1, y1⟩ := TT
  simp only at hN hbv HP
  obtain ⟨n, hn⟩ : ∃ n : Nat, beVal bs = (n : Int) := ⟨(beVal bs).toNat, by omega⟩
  rw [hn] at hN HP hbv
  rw [Int.toNat_natCast] at HP
  clear hn hby
  have hn8 : n ≤ 255 := by omega
  have hlt := h.lt
  unfold rv at *
  go_enter Tryz.func159, Tryz.ntmps159
  go_wp2_with fail
  refine (hN _).out.mono ?_
  rintro e w1 ⟨rfl, h1, o1⟩
  have O1 := D.hidIt ((only_alloc _ _ _).trans o1)
  have H1 := D.hidIt h1
  have H0 := D.hidIt h
  clear h1 o1 h hN
  go_wp2
  go_loopw [5, 8] (fun s i wr => ∃ (k : Nat) (acc : List ByteArray) (a' : Nat) (y' : Int), k ≤ n ∧ i = .int .i64 (k : Int) ∧ Hid (acc.length = k) ∧ Hid (OL w.heap.size 9 1 TextR wr s acc) ∧ Hid (IsR pr wr v l a' y') ∧ Hid (Only pr w wr) ∧ Hid (RES = rdList one (n - k) acc a' y')) (fun _ i _ => n - (intOf i).toNat)
  case atStart => exact ⟨0, [], a1, y1, by omega, rfl, rfl, OL.nil _ _ _ _ _, H1.out, O1.out, HP.out⟩
  case round =>
    clear HP H1 O1
    obtain ⟨k, acc, a4, y4, hk, rfl, HA, HO, HR, HN, HP⟩ := hrel
    obtain ⟨wv, rfl⟩ : ∃ wv, wv = wr := ⟨_, rfl⟩
    obtain ⟨lao, lcap, rfl⟩ := HO.out.slice
    have hal := HA.out
    subst hal
    clear HA
    by_cases hlt2 : acc.length < n
    · have hlt' : (acc.length : Int) < (n : Int) := by omega
      have HP' : Hid (RES = rdList one (n - (acc.length + 1)) (acc ++ [(one a4 y4).1]) (one a4 y4).2.1 (one a4 y4).2.2) := by
        show _ = _
        rw [HP.out, show n - acc.length = (n - (acc.length + 1)) + 1 by omega]
        rfl
      have hcall := HONE.out wv a4 y4 HR.out
      have h4 := HR.out
      clear HP HONE HR
      generalize one a4 y4 = RE at *
      obtain ⟨x, a5, y5⟩ := RE
      simp only at hcall HP'
      have HC := D.hidIt hcall
      have H4 := D.hidIt h4
      clear hcall h4
      go_wp2_with fail
      refine HC.out.mono ?_
      rintro e w5 ⟨⟨rfl, hR5⟩, h5, o5⟩
      have h4 := H4.out
      obtain ⟨rows, ow, rl, rk, rR⟩ := HO.out
      have ST := D.hidIt (Same.of_only (T := 9) h4 o5 (by decide))
      have own5 := own_same ow ST.out
      have rR5 : ∀ (i : Nat) r x, rows[i]? = some r → acc[i]? = some x → TextR w5 r x := fun i r x hr hx => (fun _ _ h => h : ∀ r x, TextR wv r x → TextR w5 r x) _ _ (rR i r x hr hx)
      have N5 := D.hidIt (HN.out.trans o5)
      have z5 := N5.out.size
      have RL := D.hidIt rl
      have RK := D.hidIt rk
      have RR := D.hidIt rR5
      have H5 := D.hidIt h5
      have R5 := D.hidIt hR5
      clear rl rk rR rR5 ow HO HC h5 o5 H4 h4 ST
      clear hR5
      have hl' : acc.length ≤ 255 := by omega
      go_wp2_with (at_builtin; refine wpList_append_own_at _ rfl _ _ 72 rfl w.heap.size 9 i0 _ 1 16 Tryz.underlying72 hi hz0 hz1 hz2 rfl (by decide) _ _ _ rfl (own5.alloc _) _ 1 1 [.string x] rfl rfl ?q1 ?q2 ?q3 ?q4 ?q5 ?q6)
      case q1 =>
        intro j u hj
        match j, hj with
        | 0, hj => simp at hj; subst hj; simp [Addr.add]
        | (j + 1), hj => simp at hj
      case q2 => intro u hu; simp at hu; subst hu; rfl
      case q3 => unfold maxLen; omega
      case q4 => omega
      case q5 => simp; omega
      intro v7 w7 o7 g7 _ _
      have z7 := g7.size
      have hrow : ∀ k, k < w.heap.size → some k ≠ (Value.slice lao acc.length lcap).ownBlock := fun k hk e => by have := (own5.lt k e.symm).1; omega
      have hk7 : ∀ k, k < w.heap.size → w7.heap[k]? = w5.heap[k]? := fun k hk => (g7.block k (by simp; omega) (hrow k hk)).trans (heap_alloc_old w5 _ (by omega))
      have N7 : Hid (Only pr w w7) := ⟨g7.os.trans N5.out.os, g7.tape.trans N5.out.tape, g7.output.trans N5.out.output, Nat.le_trans z5 (Nat.le_trans (by simp) z7), fun k hk hp => (hk7 k hk).trans (N5.out.block k hk hp)⟩
      have H7 : Hid (IsR pr w7 v l a5 y5) := H0.out.move N7.out ((hk7 pr hlt).trans H5.out.blk) H5.out.le
      have hst : ∀ r x, TextR w5 r x → TextR w7 r x := fun _ _ h => h
      have O7 : Hid (OL w.heap.size 9 1 TextR w7 v7 (acc ++ [x])) := OL.snoc RL.out RK.out RR.out o7 rfl (hst _ _ R5.out) hst
      obtain ⟨ao7, c7, rfl⟩ := O7.out.slice
      have HA7 : Hid ((acc ++ [x]).length = acc.length + 1) := by show _ = _; rw [List.length_append]; rfl
      clear o7 g7 hst hk7 hrow own5 z7 RL RK RR R5 H5 N5
      go_wp2
      exact ⟨⟨acc.length + 1, acc ++ [x], a5, y5, by omega, by go_num, HA7.out, O7.out, H7.out, N7.out, HP'.out⟩, by simp [intOf]; omega⟩
    · have hlt' : ¬ (acc.length : Int) < (n : Int) := by omega
      have HE : Hid (RES = (acc, a4, y4)) := by show _ = _; rw [HP.out, show n - acc.length = 0 by omega]; rfl
      clear HP HONE
      go_wp2
      go_ret
      refine ⟨_, rfl, ?_⟩
      rw [HE.out]
      exact ⟨HO.out, HR.out, HN.out⟩
theorem Tryz.info71 : (Tryz.prog.info? 71).map (fun i => (i.zero, i.size, i.bytes)) = some (some (.agg #[.int .i64 0, .int .i64 0, .int .i64 0, .string ⟨#[]⟩]), 4, 40) := by kernel_rfl
set_option maxRecDepth 8000 in
set_option maxHeartbeats 2000000 in
theorem rd_listH (pr : Nat) (v : Value) (l : List Int) (one : Nat → Int → HD × Nat × Int)
    (hone : ∀ (W : World) (a : Nat) (y : Int), IsR pr W v l a y → Calls Tryz.prog 116 #[rv pr] W fun e w' => (∃ r, e = .returned (.agg r.toArray) ∧ HandR w' r (one a y).1) ∧ IsR pr w' v l (one a y).2.1 (one a y).2.2 ∧ Only pr W w')
    (a : Nat) (y : Int) (w : World) (h : IsR pr w v l a y) :
    Calls Tryz.prog 115 #[rv pr, .func (.func 116) #[rv pr] #[]] w fun e w' => ∃ u, e = .returned u ∧ OL w.heap.size 71 4 HandR w' u (rdLs l one a y).1 ∧ IsR pr w' v l (rdLs l one a y).2.1 (rdLs l one a y).2.2 ∧ Only pr w w' := by
  obtain ⟨i0, hi, hz0, hz1, hz2⟩ := info_parts Tryz.info71
  have hby : AllBytes l := by obtain ⟨_, _, _, _, _, h, _⟩ := h.view; exact h
  have hbv := beVal_one (tk l a y 1).1 (tk_bytes _ _ _ _ hby) (by have := (tk_len l a y 1).1; omega)
  have hN := fun o => D.hidIt (rd_byte pr v l a y (w.alloc o) (h.below (balloc w o)))
  have HONE := D.hidIt hone
  have HP : Hid (rdLs l one a y = rdList one (beVal (tk l a y 1).1).toNat [] (tk l a y 1).2.1 (tk l a y 1).2.2) := rfl
  clear hone
  generalize rdLs l one a y = RES at *
  generalize tk l a y 1 = TT at *
  obtain ⟨bs, a1, y1⟩ := TT
  simp only at hN hbv HP
  obtain ⟨n, hn⟩ : ∃ n : Nat, beVal bs = (n : Int) := ⟨(beVal bs).toNat, by omega⟩
  rw [hn] at hN HP hbv
  rw [Int.toNat_natCast] at HP
  clear hn hby
  have hn8 : n ≤ 255 := by omega
  have hlt := h.lt
  unfold rv at *
  go_enter Tryz.func115, Tryz.ntmps115
  go_wp2_with fail
  refine (hN _).out.mono ?_
  rintro e w1 ⟨rfl, h1, o1⟩
  have O1 := D.hidIt ((only_alloc _ _ _).trans o1)
  have H1 := D.hidIt h1
  have H0 := D.hidIt h
  clear h1 o1 h hN
  go_wp2
  go_loopw [5, 8] (fun s i wr => ∃ (k : Nat) (acc : List HD) (a' : Nat) (y' : Int), k ≤ n ∧ i = .int .i64 (k : Int) ∧ Hid (acc.length = k) ∧ Hid (OL w.heap.size 71 4 HandR wr s acc) ∧ Hid (IsR pr wr v l a' y') ∧ Hid (Only pr w wr) ∧ Hid (RES = rdList one (n - k) acc a' y')) (fun _ i _ => n - (intOf i).toNat)
  case atStart => exact ⟨0, [], a1, y1, by omega, rfl, rfl, OL.nil _ _ _ _ _, H1.out, O1.out, HP.out⟩
  case round =>
    clear HP H1 O1
    obtain ⟨k, acc, a4, y4, hk, rfl, HA, HO, HR, HN, HP⟩ := hrel
    obtain ⟨wv, rfl⟩ : ∃ wv, wv = wr := ⟨_, rfl⟩
    obtain ⟨lao, lcap, rfl⟩ := HO.out.slice
    have hal := HA.out
    subst hal
    clear HA
    by_cases hlt2 : acc.length < n
    · have hlt' : (acc.length : Int) < (n : Int) := by omega
      have HP' : Hid (RES = rdList one (n - (acc.length + 1)) (acc ++ [(one a4 y4).1]) (one a4 y4).2.1 (one a4 y4).2.2) := by
        show _ = _
        rw [HP.out, show n - acc.length = (n - (acc.length + 1)) + 1 by omega]
        rfl
      have hcall := HONE.out wv a4 y4 HR.out
      have h4 := HR.out
      clear HP HONE HR
      generalize one a4 y4 = RE at *
      obtain ⟨x, a5, y5⟩ := RE
      simp only at hcall HP'
      have HC := D.hidIt hcall
      have H4 := D.hidIt h4
      clear hcall h4
      go_wp2_with fail
      refine HC.out.mono ?_
      rintro e w5 ⟨⟨r, rfl, hR5⟩, h5, o5⟩
      have h4 := H4.out
      obtain ⟨rows, ow, rl, rk, rR⟩ := HO.out
      have ST := D.hidIt (Same.of_only (T := 71) h4 o5 (by decide))
      have own5 := own_same ow ST.out
      have rR5 : ∀ (i : Nat) r x, rows[i]? = some r → acc[i]? = some x → HandR w5 r x := fun i r x hr hx => (fun _ _ h => h : ∀ r x, HandR wv r x → HandR w5 r x) _ _ (rR i r x hr hx)
      have N5 := D.hidIt (HN.out.trans o5)
      have z5 := N5.out.size
      have RL := D.hidIt rl
      have RK := D.hidIt rk
      have RR := D.hidIt rR5
      have H5 := D.hidIt h5
      have R5 := D.hidIt hR5
      clear rl rk rR rR5 ow HO HC h5 o5 H4 h4 ST
      obtain ⟨rfl, hsz⟩ := id hR5
      clear hR5
      have hl' : acc.length ≤ 255 := by omega
      go_wp2_with (at_builtin; refine wpList_append_own_at _ rfl _ _ 23 rfl w.heap.size 71 i0 _ 4 40 Tryz.underlying23 hi hz0 hz1 hz2 rfl (by decide) _ _ _ rfl (own5.alloc _) _ 1 1 [.int .i64 x.fr, .int .i64 x.tO, .int .i64 x.aT, .string x.ty] rfl rfl ?q1 ?q2 ?q3 ?q4 ?q5 ?q6)
      case q1 =>
        intro j u hj
        match j, hj with
        | 0, hj => simp at hj; subst hj; simp [Addr.add]
        | 1, hj => simp at hj; subst hj; simp [Addr.add]
        | 2, hj => simp at hj; subst hj; simp [Addr.add]
        | 3, hj => simp at hj; subst hj; simp [Addr.add]
        | (j + 4), hj => simp at hj
      case q2 => intro u hu; simp at hu; rcases hu with rfl | rfl | rfl | rfl <;> rfl
      case q3 => unfold maxLen; omega
      case q4 => omega
      case q5 => simp; omega
      intro v7 w7 o7 g7 _ _
      have z7 := g7.size
      have hrow : ∀ k, k < w.heap.size → some k ≠ (Value.slice lao acc.length lcap).ownBlock := fun k hk e => by have := (own5.lt k e.symm).1; omega
      have hk7 : ∀ k, k < w.heap.size → w7.heap[k]? = w5.heap[k]? := fun k hk => (g7.block k (by simp; omega) (hrow k hk)).trans (heap_alloc_old w5 _ (by omega))
      have N7 : Hid (Only pr w w7) := ⟨g7.os.trans N5.out.os, g7.tape.trans N5.out.tape, g7.output.trans N5.out.output, Nat.le_trans z5 (Nat.le_trans (by simp) z7), fun k hk hp => (hk7 k hk).trans (N5.out.block k hk hp)⟩
      have H7 : Hid (IsR pr w7 v l a5 y5) := H0.out.move N7.out ((hk7 pr hlt).trans H5.out.blk) H5.out.le
      have hst : ∀ r x, HandR w5 r x → HandR w7 r x := fun _ _ h => h
      have O7 : Hid (OL w.heap.size 71 4 HandR w7 v7 (acc ++ [x])) := OL.snoc RL.out RK.out RR.out o7 rfl (hst _ _ R5.out) hst
      obtain ⟨ao7, c7, rfl⟩ := O7.out.slice
      have HA7 : Hid ((acc ++ [x]).length = acc.length + 1) := by show _ = _; rw [List.length_append]; rfl
      clear o7 g7 hst hk7 hrow own5 z7 RL RK RR R5 H5 N5
      go_wp2
      exact ⟨⟨acc.length + 1, acc ++ [x], a5, y5, by omega, by go_num, HA7.out, O7.out, H7.out, N7.out, HP'.out⟩, by simp [intOf]; omega⟩
    · have hlt' : ¬ (acc.length : Int) < (n : Int) := by omega
      have HE : Hid (RES = (acc, a4, y4)) := by show _ = _; rw [HP.out, show n - acc.length = 0 by omega]; rfl
      clear HP HONE
      go_wp2
      go_ret
      refine ⟨_, rfl, ?_⟩
      rw [HE.out]
      exact ⟨HO.out, HR.out, HN.out⟩
theorem Tryz.info74 : (Tryz.prog.info? 74).map (fun i => (i.zero, i.size, i.bytes)) = some (some (.agg #[.int .i64 0, .slice none 0 0, .slice none 0 0]), 3, 56) := by kernel_rfl
set_option maxRecDepth 8000 in
set_option maxHeartbeats 2000000 in
theorem rd_listR (pr : Nat) (v : Value) (l : List Int) (one : Nat → Int → RD × Nat × Int)
    (hone : ∀ (W : World) (a : Nat) (y : Int), IsR pr W v l a y → Calls Tryz.prog 118 #[rv pr] W fun e w' => (∃ r, e = .returned (.agg r.toArray) ∧ FrameQ w' r (one a y).1) ∧ IsR pr w' v l (one a y).2.1 (one a y).2.2 ∧ Only pr W w')
    (a : Nat) (y : Int) (w : World) (h : IsR pr w v l a y) :
    Calls Tryz.prog 117 #[rv pr, .func (.func 118) #[rv pr] #[]] w fun e w' => ∃ u, e = .returned u ∧ OL w.heap.size 74 3 FrameQ w' u (rdLs l one a y).1 ∧ IsR pr w' v l (rdLs l one a y).2.1 (rdLs l one a y).2.2 ∧ Only pr w w' := by
  obtain ⟨i0, hi, hz0, hz1, hz2⟩ := info_parts Tryz.info74
  have hby : AllBytes l := by obtain ⟨_, _, _, _, _, h, _⟩ := h.view; exact h
  have hbv := beVal_one (tk l a y 1).1 (tk_bytes _ _ _ _ hby) (by have := (tk_len l a y 1).1; omega)
  have hN := fun o => D.hidIt (rd_byte pr v l a y (w.alloc o) (h.below (balloc w o)))
  have HONE := D.hidIt hone
  have HP : Hid (rdLs l one a y = rdList one (beVal (tk l a y 1).1).toNat [] (tk l a y 1).2.1 (tk l a y 1).2.2) := rfl
  clear hone
  generalize rdLs l one a y = RES at *
  generalize tk l a y 1 = TT at *
  obtain ⟨bs, a1, y1⟩ := TT
  simp only at hN hbv HP
  obtain ⟨n, hn⟩ : ∃ n : Nat, beVal bs = (n : Int) := ⟨(beVal bs).toNat, by omega⟩
  rw [hn] at hN HP hbv
  rw [Int.toNat_natCast] at HP
  clear hn hby
  have hn8 : n ≤ 255 := by omega
  have hlt := h.lt
  unfold rv at *
  go_enter Tryz.func117, Tryz.ntmps117
  go_wp2_with fail
  refine (hN _).out.mono ?_
  rintro e w1 ⟨rfl, h1, o1⟩
  have O1 := D.hidIt ((only_alloc _ _ _).trans o1)
  have H1 := D.hidIt h1
  have H0 := D.hidIt h
  clear h1 o1 h hN
  go_wp2
  go_loopw [5, 8] (fun s i wr => ∃ (k : Nat) (acc : List RD) (a' : Nat) (y' : Int), k ≤ n ∧ i = .int .i64 (k : Int) ∧ Hid (acc.length = k) ∧ Hid (OL w.heap.size 74 3 FrameQ wr s acc) ∧ Hid (IsR pr wr v l a' y') ∧ Hid (Only pr w wr) ∧ Hid (RES = rdList one (n - k) acc a' y')) (fun _ i _ => n - (intOf i).toNat)
  case atStart => exact ⟨0, [], a1, y1, by omega, rfl, rfl, OL.nil _ _ _ _ _, H1.out, O1.out, HP.out⟩
  case round =>
    clear HP H1 O1
    obtain ⟨k, acc, a4, y4, hk, rfl, HA, HO, HR, HN, HP⟩ := hrel
    obtain ⟨wv, rfl⟩ : ∃ wv, wv = wr := ⟨_, rfl⟩
    obtain ⟨lao, lcap, rfl⟩ := HO.out.slice
    have hal := HA.out
    subst hal
    clear HA
    by_cases hlt2 : acc.length < n
    · have hlt' : (acc.length : Int) < (n : Int) := by omega
      have HP' : Hid (RES = rdList one (n - (acc.length + 1)) (acc ++ [(one a4 y4).1]) (one a4 y4).2.1 (one a4 y4).2.2) := by
        show _ = _
        rw [HP.out, show n - acc.length = (n - (acc.length + 1)) + 1 by omega]
        rfl
      have hcall := HONE.out wv a4 y4 HR.out
      have h4 := HR.out
      clear HP HONE HR
      generalize one a4 y4 = RE at *
      obtain ⟨x, a5, y5⟩ := RE
      simp only at hcall HP'
      have HC := D.hidIt hcall
      have H4 := D.hidIt h4
      clear hcall h4
      go_wp2_with fail
      refine HC.out.mono ?_
      rintro e w5 ⟨⟨r, rfl, hR5⟩, h5, o5⟩
      have h4 := H4.out
      obtain ⟨rows, ow, rl, rk, rR⟩ := HO.out
      have ST := D.hidIt (Same.of_only (T := 74) h4 o5 (by decide))
      have own5 := own_same ow ST.out
      have rR5 : ∀ (i : Nat) r x, rows[i]? = some r → acc[i]? = some x → FrameQ w5 r x := fun i r x hr hx => (fun _ _ h => h.same (Same.of_only h4 o5 (by decide)) : ∀ r x, FrameQ wv r x → FrameQ w5 r x) _ _ (rR i r x hr hx)
      have N5 := D.hidIt (HN.out.trans o5)
      have z5 := N5.out.size
      have RL := D.hidIt rl
      have RK := D.hidIt rk
      have RR := D.hidIt rR5
      have H5 := D.hidIt h5
      have R5 := D.hidIt hR5
      clear rl rk rR rR5 ow HO HC h5 o5 H4 h4 ST
      obtain ⟨u1, u2, rfl, hl1, hl2⟩ := id hR5
      obtain ⟨p1, q1, rfl⟩ := hl1.slice
      obtain ⟨p2, q2, rfl⟩ := hl2.slice
      clear hl1 hl2
      clear hR5
      have hl' : acc.length ≤ 255 := by omega
      go_wp2_with (at_builtin; refine wpList_append_own_at _ rfl _ _ 24 rfl w.heap.size 74 i0 _ 3 56 Tryz.underlying24 hi hz0 hz1 hz2 rfl (by decide) _ _ _ rfl (own5.alloc _) _ 1 1 [.int .i64 x.aT, .slice p1 x.loc.length q1, .slice p2 x.stk.length q2] rfl rfl ?q1 ?q2 ?q3 ?q4 ?q5 ?q6)
      case q1 =>
        intro j u hj
        match j, hj with
        | 0, hj => simp at hj; subst hj; simp [Addr.add]
        | 1, hj => simp at hj; subst hj; simp [Addr.add]
        | 2, hj => simp at hj; subst hj; simp [Addr.add]
        | (j + 3), hj => simp at hj
      case q2 => intro u hu; simp at hu; rcases hu with rfl | rfl | rfl <;> rfl
      case q3 => unfold maxLen; omega
      case q4 => omega
      case q5 => simp; omega
      intro v7 w7 o7 g7 _ _
      have z7 := g7.size
      have hrow : ∀ k, k < w.heap.size → some k ≠ (Value.slice lao acc.length lcap).ownBlock := fun k hk e => by have := (own5.lt k e.symm).1; omega
      have hk7 : ∀ k, k < w.heap.size → w7.heap[k]? = w5.heap[k]? := fun k hk => (g7.block k (by simp; omega) (hrow k hk)).trans (heap_alloc_old w5 _ (by omega))
      have N7 : Hid (Only pr w w7) := ⟨g7.os.trans N5.out.os, g7.tape.trans N5.out.tape, g7.output.trans N5.out.output, Nat.le_trans z5 (Nat.le_trans (by simp) z7), fun k hk hp => (hk7 k hk).trans (N5.out.block k hk hp)⟩
      have H7 : Hid (IsR pr w7 v l a5 y5) := H0.out.move N7.out ((hk7 pr hlt).trans H5.out.blk) H5.out.le
      have hst : ∀ r x, FrameQ w5 r x → FrameQ w7 r x := fun _ _ h => h.same (Same.of_grown own5 g7 (by decide))
      have O7 : Hid (OL w.heap.size 74 3 FrameQ w7 v7 (acc ++ [x])) := OL.snoc RL.out RK.out RR.out o7 rfl (hst _ _ R5.out) hst
      obtain ⟨ao7, c7, rfl⟩ := O7.out.slice
      have HA7 : Hid ((acc ++ [x]).length = acc.length + 1) := by show _ = _; rw [List.length_append]; rfl
      clear o7 g7 hst hk7 hrow own5 z7 RL RK RR R5 H5 N5
      go_wp2
      exact ⟨⟨acc.length + 1, acc ++ [x], a5, y5, by omega, by go_num, HA7.out, O7.out, H7.out, N7.out, HP'.out⟩, by simp [intOf]; omega⟩
    · have hlt' : ¬ (acc.length : Int) < (n : Int) := by omega
      have HE : Hid (RES = (acc, a4, y4)) := by show _ = _; rw [HP.out, show n - acc.length = 0 by omega]; rfl
      clear HP HONE
      go_wp2
      go_ret
      refine ⟨_, rfl, ?_⟩
      rw [HE.out]
      exact ⟨HO.out, HR.out, HN.out⟩
set_option maxRecDepth 8000 in
set_option maxHeartbeats 2000000 in
theorem rd_listF (pr : Nat) (v : Value) (l : List Int) (one : Nat → Int → FD × Nat × Int)
    (hone : ∀ (W : World) (a : Nat) (y : Int), IsR pr W v l a y → Calls Tryz.prog 70 #[rv pr] W fun e w' => (∃ r, e = .returned (.agg r.toArray) ∧ FieldR w' r (one a y).1) ∧ IsR pr w' v l (one a y).2.1 (one a y).2.2 ∧ Only pr W w')
    (a : Nat) (y : Int) (w : World) (h : IsR pr w v l a y) :
    Calls Tryz.prog 69 #[rv pr, .func (.func 70) #[rv pr] #[]] w fun e w' => ∃ u, e = .returned u ∧ OL w.heap.size 63 3 FieldR w' u (rdLs l one a y).1 ∧ IsR pr w' v l (rdLs l one a y).2.1 (rdLs l one a y).2.2 ∧ Only pr w w' := by
  obtain ⟨i0, hi, hz0, hz1, hz2⟩ := info_parts Tryz.info63
  have hby : AllBytes l := by obtain ⟨_, _, _, _, _, h, _⟩ := h.view; exact h
  have hbv := beVal_one (tk l a y 1).1 (tk_bytes _ _ _ _ hby) (by have := (tk_len l a y 1).1; omega)
  have hN := fun o => D.hidIt (rd_byte pr v l a y (w.alloc o) (h.below (balloc w o)))
  have HONE := D.hidIt hone
  have HP : Hid (rdLs l one a y = rdList one (beVal (tk l a y 1).1).toNat [] (tk l a y 1).2.1 (tk l a y 1).2.2) := rfl
  clear hone
  generalize rdLs l one a y = RES at *
  generalize tk l a y 1 = TT at *
  obtain ⟨bs, a1, y1⟩ := TT
  simp only at hN hbv HP
  obtain ⟨n, hn⟩ : ∃ n : Nat, beVal bs = (n : Int) := ⟨(beVal bs).toNat, by omega⟩
  rw [hn] at hN HP hbv
  rw [Int.toNat_natCast] at HP
  clear hn hby
  have hn8 : n ≤ 255 := by omega
  have hlt := h.lt
  unfold rv at *
  go_enter Tryz.func69, Tryz.ntmps69
  go_wp2_with fail
  refine (hN _).out.mono ?_
  rintro e w1 ⟨rfl, h1, o1⟩
  have O1 := D.hidIt ((only_alloc _ _ _).trans o1)
  have H1 := D.hidIt h1
  have H0 := D.hidIt h
  clear h1 o1 h hN
  go_wp2
  go_loopw [5, 8] (fun s i wr => ∃ (k : Nat) (acc : List FD) (a' : Nat) (y' : Int), k ≤ n ∧ i = .int .i64 (k : Int) ∧ Hid (acc.length = k) ∧ Hid (OL w.heap.size 63 3 FieldR wr s acc) ∧ Hid (IsR pr wr v l a' y') ∧ Hid (Only pr w wr) ∧ Hid (RES = rdList one (n - k) acc a' y')) (fun _ i _ => n - (intOf i).toNat)
  case atStart => exact ⟨0, [], a1, y1, by omega, rfl, rfl, OL.nil _ _ _ _ _, H1.out, O1.out, HP.out⟩
  case round =>
    clear HP H1 O1
    obtain ⟨k, acc, a4, y4, hk, rfl, HA, HO, HR, HN, HP⟩ := hrel
    obtain ⟨wv, rfl⟩ : ∃ wv, wv = wr := ⟨_, rfl⟩
    obtain ⟨lao, lcap, rfl⟩ := HO.out.slice
    have hal := HA.out
    subst hal
    clear HA
    by_cases hlt2 : acc.length < n
    · have hlt' : (acc.length : Int) < (n : Int) := by omega
      have HP' : Hid (RES = rdList one (n - (acc.length + 1)) (acc ++ [(one a4 y4).1]) (one a4 y4).2.1 (one a4 y4).2.2) := by
        show _ = _
        rw [HP.out, show n - acc.length = (n - (acc.length + 1)) + 1 by omega]
        rfl
      have hcall := HONE.out wv a4 y4 HR.out
      have h4 := HR.out
      clear HP HONE HR
      generalize one a4 y4 = RE at *
      obtain ⟨x, a5, y5⟩ := RE
      simp only at hcall HP'
      have HC := D.hidIt hcall
      have H4 := D.hidIt h4
      clear hcall h4
      go_wp2_with fail
      refine HC.out.mono ?_
      rintro e w5 ⟨⟨r, rfl, hR5⟩, h5, o5⟩
      have h4 := H4.out
      obtain ⟨rows, ow, rl, rk, rR⟩ := HO.out
      have ST := D.hidIt (Same.of_only (T := 63) h4 o5 (by decide))
      have own5 := own_same ow ST.out
      have rR5 : ∀ (i : Nat) r x, rows[i]? = some r → acc[i]? = some x → FieldR w5 r x := fun i r x hr hx => (fun _ _ h => h : ∀ r x, FieldR wv r x → FieldR w5 r x) _ _ (rR i r x hr hx)
      have N5 := D.hidIt (HN.out.trans o5)
      have z5 := N5.out.size
      have RL := D.hidIt rl
      have RK := D.hidIt rk
      have RR := D.hidIt rR5
      have H5 := D.hidIt h5
      have R5 := D.hidIt hR5
      clear rl rk rR rR5 ow HO HC h5 o5 H4 h4 ST
      obtain ⟨rfl, hsz⟩ := id hR5
      clear hR5
      have hl' : acc.length ≤ 255 := by omega
      go_wp2_with (at_builtin; refine wpList_append_own_at _ rfl _ _ 30 rfl w.heap.size 63 i0 _ 3 40 Tryz.underlying30 hi hz0 hz1 hz2 rfl (by decide) _ _ _ rfl (own5.alloc _) _ 1 1 [.string x.nm, .string x.ds, .bool x.st] rfl rfl ?q1 ?q2 ?q3 ?q4 ?q5 ?q6)
      case q1 =>
        intro j u hj
        match j, hj with
        | 0, hj => simp at hj; subst hj; simp [Addr.add]
        | 1, hj => simp at hj; subst hj; simp [Addr.add]
        | 2, hj => simp at hj; subst hj; simp [Addr.add]
        | (j + 3), hj => simp at hj
      case q2 => intro u hu; simp at hu; rcases hu with rfl | rfl | rfl <;> rfl
      case q3 => unfold maxLen; omega
      case q4 => omega
      case q5 => simp; omega
      intro v7 w7 o7 g7 _ _
      have z7 := g7.size
      have hrow : ∀ k, k < w.heap.size → some k ≠ (Value.slice lao acc.length lcap).ownBlock := fun k hk e => by have := (own5.lt k e.symm).1; omega
      have hk7 : ∀ k, k < w.heap.size → w7.heap[k]? = w5.heap[k]? := fun k hk => (g7.block k (by simp; omega) (hrow k hk)).trans (heap_alloc_old w5 _ (by omega))
      have N7 : Hid (Only pr w w7) := ⟨g7.os.trans N5.out.os, g7.tape.trans N5.out.tape, g7.output.trans N5.out.output, Nat.le_trans z5 (Nat.le_trans (by simp) z7), fun k hk hp => (hk7 k hk).trans (N5.out.block k hk hp)⟩
      have H7 : Hid (IsR pr w7 v l a5 y5) := H0.out.move N7.out ((hk7 pr hlt).trans H5.out.blk) H5.out.le
      have hst : ∀ r x, FieldR w5 r x → FieldR w7 r x := fun _ _ h => h
      have O7 : Hid (OL w.heap.size 63 3 FieldR w7 v7 (acc ++ [x])) := OL.snoc RL.out RK.out RR.out o7 rfl (hst _ _ R5.out) hst
      obtain ⟨ao7, c7, rfl⟩ := O7.out.slice
      have HA7 : Hid ((acc ++ [x]).length = acc.length + 1) := by show _ = _; rw [List.length_append]; rfl
      clear o7 g7 hst hk7 hrow own5 z7 RL RK RR R5 H5 N5
      go_wp2
      exact ⟨⟨acc.length + 1, acc ++ [x], a5, y5, by omega, by go_num, HA7.out, O7.out, H7.out, N7.out, HP'.out⟩, by simp [intOf]; omega⟩
    · have hlt' : ¬ (acc.length : Int) < (n : Int) := by omega
      have HE : Hid (RES = (acc, a4, y4)) := by show _ = _; rw [HP.out, show n - acc.length = 0 by omega]; rfl
      clear HP HONE
      go_wp2
      go_ret
      refine ⟨_, rfl, ?_⟩
      rw [HE.out]
      exact ⟨HO.out, HR.out, HN.out⟩
set_option maxRecDepth 8000 in
set_option maxHeartbeats 2000000 in
theorem rd_listM (pr : Nat) (v : Value) (l : List Int) (one : Nat → Int → MD × Nat × Int)
    (hone : ∀ (W : World) (a : Nat) (y : Int), IsR pr W v l a y → Calls Tryz.prog 72 #[rv pr] W fun e w' => (∃ r, e = .returned (.agg r.toArray) ∧ MethQ w' r (one a y).1) ∧ IsR pr w' v l (one a y).2.1 (one a y).2.2 ∧ Only pr W w')
    (a : Nat) (y : Int) (w : World) (h : IsR pr w v l a y) :
    Calls Tryz.prog 71 #[rv pr, .func (.func 72) #[rv pr] #[]] w fun e w' => ∃ u, e = .returned u ∧ OL w.heap.size 26 9 MethQ w' u (rdLs l one a y).1 ∧ IsR pr w' v l (rdLs l one a y).2.1 (rdLs l one a y).2.2 ∧ Only pr w w' := by
  obtain ⟨i0, hi, hz0, hz1, hz2⟩ := info_parts Tryz.info26
  have hby : AllBytes l := by obtain ⟨_, _, _, _, _, h, _⟩ := h.view; exact h
  have hbv := beVal_one (tk l a y 1).1 (tk_bytes _ _ _ _ hby) (by have := (tk_len l a y 1).1; omega)
  have hN := fun o => D.hidIt (rd_byte pr v l a y (w.alloc o) (h.below (balloc w o)))
  have HONE := D.hidIt hone
  have HP : Hid (rdLs l one a y = rdList one (beVal (tk l a y 1).1).toNat [] (tk l a y 1).2.1 (tk l a y 1).2.2) := rfl
  clear hone
  generalize rdLs l one a y = RES at *
  generalize tk l a y 1 = TT at *
  obtain ⟨bs, a1, y1⟩ := TT
  simp only at hN hbv HP
  obtain ⟨n, hn⟩ : ∃ n : Nat, beVal bs = (n : Int) := ⟨(beVal bs).toNat, by omega⟩
  rw [hn] at hN HP hbv
  rw [Int.toNat_natCast] at HP
  clear hn hby
  have hn8 : n ≤ 255 := by omega
  have hlt := h.lt
  unfold rv at *
  go_enter Tryz.func71, Tryz.ntmps71
  go_wp2_with fail
  refine (hN _).out.mono ?_
  rintro e w1 ⟨rfl, h1, o1⟩
  have O1 := D.hidIt ((only_alloc _ _ _).trans o1)
  have H1 := D.hidIt h1
  have H0 := D.hidIt h
  clear h1 o1 h hN
  go_wp2
  go_loopw [5, 8] (fun s i wr => ∃ (k : Nat) (acc : List MD) (a' : Nat) (y' : Int), k ≤ n ∧ i = .int .i64 (k : Int) ∧ Hid (acc.length = k) ∧ Hid (OL w.heap.size 26 9 MethQ wr s acc) ∧ Hid (IsR pr wr v l a' y') ∧ Hid (Only pr w wr) ∧ Hid (RES = rdList one (n - k) acc a' y')) (fun _ i _ => n - (intOf i).toNat)
  case atStart => exact ⟨0, [], a1, y1, by omega, rfl, rfl, OL.nil _ _ _ _ _, H1.out, O1.out, HP.out⟩
  case round =>
    clear HP H1 O1
    obtain ⟨k, acc, a4, y4, hk, rfl, HA, HO, HR, HN, HP⟩ := hrel
    obtain ⟨wv, rfl⟩ : ∃ wv, wv = wr := ⟨_, rfl⟩
    obtain ⟨lao, lcap, rfl⟩ := HO.out.slice
    have hal := HA.out
    subst hal
    clear HA
    by_cases hlt2 : acc.length < n
    · have hlt' : (acc.length : Int) < (n : Int) := by omega
      have HP' : Hid (RES = rdList one (n - (acc.length + 1)) (acc ++ [(one a4 y4).1]) (one a4 y4).2.1 (one a4 y4).2.2) := by
        show _ = _
        rw [HP.out, show n - acc.length = (n - (acc.length + 1)) + 1 by omega]
        rfl
      have hcall := HONE.out wv a4 y4 HR.out
      have h4 := HR.out
      clear HP HONE HR
      generalize one a4 y4 = RE at *
      obtain ⟨x, a5, y5⟩ := RE
      simp only at hcall HP'
      have HC := D.hidIt hcall
      have H4 := D.hidIt h4
      clear hcall h4
      go_wp2_with fail
      refine HC.out.mono ?_
      rintro e w5 ⟨⟨r, rfl, hR5⟩, h5, o5⟩
      have h4 := H4.out
      obtain ⟨rows, ow, rl, rk, rR⟩ := HO.out
      have ST := D.hidIt (Same.of_only (T := 26) h4 o5 (by decide))
      have own5 := own_same ow ST.out
      have rR5 : ∀ (i : Nat) r x, rows[i]? = some r → acc[i]? = some x → MethQ w5 r x := fun i r x hr hx => (fun _ _ h => h.same (Same.of_only h4 o5 (by decide)) (Same.of_only h4 o5 (by decide)) (Same.of_only h4 o5 (by decide)) (Same.of_only h4 o5 (by decide)) : ∀ r x, MethQ wv r x → MethQ w5 r x) _ _ (rR i r x hr hx)
      have N5 := D.hidIt (HN.out.trans o5)
      have z5 := N5.out.size
      have RL := D.hidIt rl
      have RK := D.hidIt rk
      have RR := D.hidIt rR5
      have H5 := D.hidIt h5
      have R5 := D.hidIt hR5
      clear rl rk rR rR5 ow HO HC h5 o5 H4 h4 ST
      obtain ⟨u1, u2, u3, rfl, _, _, hl1, _, hl2, hl3⟩ := id hR5
      obtain ⟨p1, q1, rfl⟩ := slice_of_own hl1
      obtain ⟨p2, q2, rfl⟩ := hl2.slice
      obtain ⟨p3, q3, rfl⟩ := hl3.slice
      clear hl1 hl2 hl3
      clear hR5
      have hl' : acc.length ≤ 255 := by omega
      go_wp2_with (at_builtin; refine wpList_append_own_at _ rfl _ _ 31 rfl w.heap.size 26 i0 _ 9 128 Tryz.underlying31 hi hz0 hz1 hz2 rfl (by decide) _ _ _ rfl (own5.alloc _) _ 1 1 [.string x.nm, .string x.ds, .bool x.st, .bool x.nat, .int .i64 x.stk, .int .i64 x.loc, .slice p1 x.code.length q1, .slice p2 x.hs.length q2, .slice p3 x.rs.length q3] rfl rfl ?q1 ?q2 ?q3 ?q4 ?q5 ?q6)
      case q1 =>
        intro j u hj
        match j, hj with
        | 0, hj => simp at hj; subst hj; simp [Addr.add]
        | 1, hj => simp at hj; subst hj; simp [Addr.add]
        | 2, hj => simp at hj; subst hj; simp [Addr.add]
        | 3, hj => simp at hj; subst hj; simp [Addr.add]
        | 4, hj => simp at hj; subst hj; simp [Addr.add]
        | 5, hj => simp at hj; subst hj; simp [Addr.add]
        | 6, hj => simp at hj; subst hj; simp [Addr.add]
        | 7, hj => simp at hj; subst hj; simp [Addr.add]
        | 8, hj => simp at hj; subst hj; simp [Addr.add]
        | (j + 9), hj => simp at hj
      case q2 => intro u hu; simp at hu; rcases hu with rfl | rfl | rfl | rfl | rfl | rfl | rfl | rfl | rfl <;> rfl
      case q3 => unfold maxLen; omega
      case q4 => omega
      case q5 => simp; omega
      intro v7 w7 o7 g7 _ _
      have z7 := g7.size
      have hrow : ∀ k, k < w.heap.size → some k ≠ (Value.slice lao acc.length lcap).ownBlock := fun k hk e => by have := (own5.lt k e.symm).1; omega
      have hk7 : ∀ k, k < w.heap.size → w7.heap[k]? = w5.heap[k]? := fun k hk => (g7.block k (by simp; omega) (hrow k hk)).trans (heap_alloc_old w5 _ (by omega))
      have N7 : Hid (Only pr w w7) := ⟨g7.os.trans N5.out.os, g7.tape.trans N5.out.tape, g7.output.trans N5.out.output, Nat.le_trans z5 (Nat.le_trans (by simp) z7), fun k hk hp => (hk7 k hk).trans (N5.out.block k hk hp)⟩
      have H7 : Hid (IsR pr w7 v l a5 y5) := H0.out.move N7.out ((hk7 pr hlt).trans H5.out.blk) H5.out.le
      have hst : ∀ r x, MethQ w5 r x → MethQ w7 r x := fun _ _ h => h.same (Same.of_grown own5 g7 (by decide)) (Same.of_grown own5 g7 (by decide)) (Same.of_grown own5 g7 (by decide)) (Same.of_grown own5 g7 (by decide))
      have O7 : Hid (OL w.heap.size 26 9 MethQ w7 v7 (acc ++ [x])) := OL.snoc RL.out RK.out RR.out o7 rfl (hst _ _ R5.out) hst
      obtain ⟨ao7, c7, rfl⟩ := O7.out.slice
      have HA7 : Hid ((acc ++ [x]).length = acc.length + 1) := by show _ = _; rw [List.length_append]; rfl
      clear o7 g7 hst hk7 hrow own5 z7 RL RK RR R5 H5 N5
      go_wp2
      exact ⟨⟨acc.length + 1, acc ++ [x], a5, y5, by omega, by go_num, HA7.out, O7.out, H7.out, N7.out, HP'.out⟩, by simp [intOf]; omega⟩
    · have hlt' : ¬ (acc.length : Int) < (n : Int) := by omega
      have HE : Hid (RES = (acc, a4, y4)) := by show _ = _; rw [HP.out, show n - acc.length = 0 by omega]; rfl
      clear HP HONE
      go_wp2
      go_ret
      refine ⟨_, rfl, ?_⟩
      rw [HE.out]
      exact ⟨HO.out, HR.out, HN.out⟩
end Go.Proofs.YthagaldpopnoeaaGreatDoor

/- Handlers and frames, read: walked. -/
namespace Go.Proofs.YthagaldpopnoeaaGreatDoor
open Go.RowKit D

theorem Same.of_set {w : World} {g : Nat} {U T : TypeId} {cur : Array Value} (h : w.heap[g]? = some (.cells cur U (0, 0))) (j : Nat) (u : Value) (hT : T ≠ U) : Same T w (w.setCell ⟨g, j, none⟩ u) := fun b c hb => by
  have hne : b ≠ g := by rintro rfl; rw [h] at hb; cases hb; exact hT rfl
  rw [Below.heap_setCell _ _ _ _ hne]; exact hb
theorem text_same {w w' : World} {v : Value} {xs : List ByteArray} {B : Nat} (h : OL B 9 1 TextR w v xs) (s : Same 9 w w') : OL B 9 1 TextR w' v xs := h.same s (fun _ _ h => h)
theorem row3 {w : World} {g : Nat} {b0 b1 b2 : Value} {T : TypeId} (h : w.heap[g]? = some (.cells #[b0, b1, b2] T (0, 0))) :
    w.cell? ⟨g, 0, none⟩ = some b0 ∧ w.cell? ⟨g, 1, none⟩ = some b1 ∧ w.cell? ⟨g, 2, none⟩ = some b2 ∧ ∀ x, w.frozen? ⟨g, x, none⟩ = false :=
  ⟨cell_row h 0 rfl, cell_row h 1 rfl, cell_row h 2 rfl, fun x => frozen_row h x⟩
theorem set3T {w : World} {g : Nat} {T : TypeId} {b0 b1 b2 : Value} (v0 v1 v2 : Value) (h : w.heap[g]? = some (.cells #[b0, b1, b2] T (0, 0))) :
    (((w.setCell ⟨g, 0, none⟩ v0).setCell ⟨g, 1, none⟩ v1).setCell ⟨g, 2, none⟩ v2).heap[g]? = some (.cells #[v0, v1, v2] T (0, 0)) := by
  have h1 := gset_row (j := 0) (u := v0) h
  have h2 := gset_row (j := 1) (u := v1) h1
  have h3 := gset_row (j := 2) (u := v2) h2
  exact h3
theorem off3 {w : World} {g b : Nat} {u : Value} (v0 v1 v2 : Value) (hne : b ≠ g) (h : w.cell? ⟨b, 0, none⟩ = some u) :
    (((w.setCell ⟨g, 0, none⟩ v0).setCell ⟨g, 1, none⟩ v1).setCell ⟨g, 2, none⟩ v2).cell? ⟨b, 0, none⟩ = some u := by
  rw [World.cell?_of_block (a := ⟨b, 0, none⟩) (w := w), h]
  rw [Below.heap_setCell _ _ _ _ hne, Below.heap_setCell _ _ _ _ hne, Below.heap_setCell _ _ _ _ hne]
theorem put3R {pr g : Nat} {w0 w : World} {v : Value} {l : List Int} {a0 a : Nat} {y0 y : Int} (v0 v1 v2 : Value) (h0 : IsR pr w0 v l a0 y0) (ho : Only pr w0 w) (h : IsR pr w v l a y) (hp : w0.heap.size ≤ g) :
    IsR pr (((w.setCell ⟨g, 0, none⟩ v0).setCell ⟨g, 1, none⟩ v1).setCell ⟨g, 2, none⟩ v2) v l a y ∧ Only pr w0 (((w.setCell ⟨g, 0, none⟩ v0).setCell ⟨g, 1, none⟩ v1).setCell ⟨g, 2, none⟩ v2) := by
  have r1 := h0.put (o := 0) (u := v0) ho h hp
  have o1 := ho.put (o := 0) (u := v0) hp
  have r2 := h0.put (o := 1) (u := v1) o1 r1 hp
  have o2 := o1.put (o := 1) (u := v1) hp
  have r3 := h0.put (o := 2) (u := v2) o2 r2 hp
  have o3 := o2.put (o := 2) (u := v2) hp
  exact ⟨r3, o3⟩
theorem same3 {w : World} {g : Nat} {U T : TypeId} {b0 b1 b2 : Value} (v0 v1 v2 : Value) (h : w.heap[g]? = some (.cells #[b0, b1, b2] U (0, 0))) (hT : T ≠ U) : Same T w (((w.setCell ⟨g, 0, none⟩ v0).setCell ⟨g, 1, none⟩ v1).setCell ⟨g, 2, none⟩ v2) := by
  have h1 := gset_row (j := 0) (u := v0) h
  have h2 := gset_row (j := 1) (u := v1) h1
  have h3 := gset_row (j := 2) (u := v2) h2
  exact (Same.of_set h 0 v0 hT).trans ((Same.of_set h1 1 v1 hT).trans ((Same.of_set h2 2 v2 hT)))
theorem row4 {w : World} {g : Nat} {b0 b1 b2 b3 : Value} {T : TypeId} (h : w.heap[g]? = some (.cells #[b0, b1, b2, b3] T (0, 0))) :
    w.cell? ⟨g, 0, none⟩ = some b0 ∧ w.cell? ⟨g, 1, none⟩ = some b1 ∧ w.cell? ⟨g, 2, none⟩ = some b2 ∧ w.cell? ⟨g, 3, none⟩ = some b3 ∧ ∀ x, w.frozen? ⟨g, x, none⟩ = false :=
  ⟨cell_row h 0 rfl, cell_row h 1 rfl, cell_row h 2 rfl, cell_row h 3 rfl, fun x => frozen_row h x⟩
theorem set4T {w : World} {g : Nat} {T : TypeId} {b0 b1 b2 b3 : Value} (v0 v1 v2 v3 : Value) (h : w.heap[g]? = some (.cells #[b0, b1, b2, b3] T (0, 0))) :
    ((((w.setCell ⟨g, 0, none⟩ v0).setCell ⟨g, 1, none⟩ v1).setCell ⟨g, 2, none⟩ v2).setCell ⟨g, 3, none⟩ v3).heap[g]? = some (.cells #[v0, v1, v2, v3] T (0, 0)) := by
  have h1 := gset_row (j := 0) (u := v0) h
  have h2 := gset_row (j := 1) (u := v1) h1
  have h3 := gset_row (j := 2) (u := v2) h2
  have h4 := gset_row (j := 3) (u := v3) h3
  exact h4
theorem off4 {w : World} {g b : Nat} {u : Value} (v0 v1 v2 v3 : Value) (hne : b ≠ g) (h : w.cell? ⟨b, 0, none⟩ = some u) :
    ((((w.setCell ⟨g, 0, none⟩ v0).setCell ⟨g, 1, none⟩ v1).setCell ⟨g, 2, none⟩ v2).setCell ⟨g, 3, none⟩ v3).cell? ⟨b, 0, none⟩ = some u := by
  rw [World.cell?_of_block (a := ⟨b, 0, none⟩) (w := w), h]
  rw [Below.heap_setCell _ _ _ _ hne, Below.heap_setCell _ _ _ _ hne, Below.heap_setCell _ _ _ _ hne, Below.heap_setCell _ _ _ _ hne]
theorem put4R {pr g : Nat} {w0 w : World} {v : Value} {l : List Int} {a0 a : Nat} {y0 y : Int} (v0 v1 v2 v3 : Value) (h0 : IsR pr w0 v l a0 y0) (ho : Only pr w0 w) (h : IsR pr w v l a y) (hp : w0.heap.size ≤ g) :
    IsR pr ((((w.setCell ⟨g, 0, none⟩ v0).setCell ⟨g, 1, none⟩ v1).setCell ⟨g, 2, none⟩ v2).setCell ⟨g, 3, none⟩ v3) v l a y ∧ Only pr w0 ((((w.setCell ⟨g, 0, none⟩ v0).setCell ⟨g, 1, none⟩ v1).setCell ⟨g, 2, none⟩ v2).setCell ⟨g, 3, none⟩ v3) := by
  have r1 := h0.put (o := 0) (u := v0) ho h hp
  have o1 := ho.put (o := 0) (u := v0) hp
  have r2 := h0.put (o := 1) (u := v1) o1 r1 hp
  have o2 := o1.put (o := 1) (u := v1) hp
  have r3 := h0.put (o := 2) (u := v2) o2 r2 hp
  have o3 := o2.put (o := 2) (u := v2) hp
  have r4 := h0.put (o := 3) (u := v3) o3 r3 hp
  have o4 := o3.put (o := 3) (u := v3) hp
  exact ⟨r4, o4⟩
theorem same4 {w : World} {g : Nat} {U T : TypeId} {b0 b1 b2 b3 : Value} (v0 v1 v2 v3 : Value) (h : w.heap[g]? = some (.cells #[b0, b1, b2, b3] U (0, 0))) (hT : T ≠ U) : Same T w ((((w.setCell ⟨g, 0, none⟩ v0).setCell ⟨g, 1, none⟩ v1).setCell ⟨g, 2, none⟩ v2).setCell ⟨g, 3, none⟩ v3) := by
  have h1 := gset_row (j := 0) (u := v0) h
  have h2 := gset_row (j := 1) (u := v1) h1
  have h3 := gset_row (j := 2) (u := v2) h2
  have h4 := gset_row (j := 3) (u := v3) h3
  exact (Same.of_set h 0 v0 hT).trans ((Same.of_set h1 1 v1 hT).trans ((Same.of_set h2 2 v2 hT).trans ((Same.of_set h3 3 v3 hT))))
/-- A handler, read. -/
def rdH (l : List Int) (a : Nat) (y : Int) : HD × Nat × Int :=
  (⟨beVal (tk l a y 2).1, beVal (tk l (tk l a y 2).2.1 (tk l a y 2).2.2 2).1, beVal (tk l (tk l (tk l a y 2).2.1 (tk l a y 2).2.2 2).2.1 (tk l (tk l a y 2).2.1 (tk l a y 2).2.2 2).2.2 2).1,
    (rtext l (tk l (tk l (tk l a y 2).2.1 (tk l a y 2).2.2 2).2.1 (tk l (tk l a y 2).2.1 (tk l a y 2).2.2 2).2.2 2).2.1 (tk l (tk l (tk l a y 2).2.1 (tk l a y 2).2.2 2).2.1 (tk l (tk l a y 2).2.1 (tk l a y 2).2.2 2).2.2 2).2.2).1⟩,
    (rtext l (tk l (tk l (tk l a y 2).2.1 (tk l a y 2).2.2 2).2.1 (tk l (tk l a y 2).2.1 (tk l a y 2).2.2 2).2.2 2).2.1 (tk l (tk l (tk l a y 2).2.1 (tk l a y 2).2.2 2).2.1 (tk l (tk l a y 2).2.1 (tk l a y 2).2.2 2).2.2 2).2.2).2)
set_option maxRecDepth 8000 in
set_option maxHeartbeats 4000000 in
theorem one_rdH (pr : Nat) (v : Value) (l : List Int) (a : Nat) (y : Int) (w : World) (h : IsR pr w v l a y) :
    Calls Tryz.prog 116 #[rv pr] w fun e w' => (∃ r, e = .returned (.agg r.toArray) ∧ HandR w' r (rdH l a y).1) ∧ IsR pr w' v l (rdH l a y).2.1 (rdH l a y).2.2 ∧ Only pr w w' := by
  have hby : AllBytes l := by obtain ⟨_, _, _, _, _, h, _⟩ := h.view; exact h
  have g1 := fun W (h : IsR pr W v l a y) => D.hidIt (rd_pair pr v l a y W h)
  have HD0 : Hid (rdH l a y = _) := rfl
  unfold rdH at HD0 ⊢
  generalize tk l a y 2 = T1 at *
  obtain ⟨t1, a1, y1⟩ := T1
  simp only at *
  have g2 := fun W (h : IsR pr W v l a1 y1) => D.hidIt (rd_pair pr v l a1 y1 W h)
  generalize tk l a1 y1 2 = T2 at *
  obtain ⟨t2, a2, y2⟩ := T2
  simp only at *
  have g3 := fun W (h : IsR pr W v l a2 y2) => D.hidIt (rd_pair pr v l a2 y2 W h)
  generalize tk l a2 y2 2 = T3 at *
  obtain ⟨t3, a3, y3⟩ := T3
  simp only at *
  have g4 := fun W (h : IsR pr W v l a3 y3) => D.hidIt (rtext_any pr v l a3 y3 W h)
  have hsz := rtext_small l a3 y3 hby
  generalize rtext l a3 y3 = T4 at *
  obtain ⟨s4, a4, y4⟩ := T4
  simp only at *
  generalize beVal t1 = n1 at *
  generalize beVal t2 = n2 at *
  generalize beVal t3 = n3 at *
  have HSZ : Hid (s4.size ≤ 9223372036854775807) := by show _ ≤ _; omega
  clear hsz hby HD0
  have hlt := h.lt
  have HL : Hid (l.length ≤ l.length) := Nat.le_refl _
  have O0 := D.hidIt ((only_alloc pr w (.cells #[.pointer (some ⟨pr, 0, none⟩)] 79)).trans (only_alloc pr _ (.cells #[.int .i64 0, .int .i64 0, .int .i64 0, .string ⟨#[]⟩] 71)))
  have R0 := D.hidIt ((h.below (balloc w (.cells #[.pointer (some ⟨pr, 0, none⟩)] 79))).below (balloc _ (.cells #[.int .i64 0, .int .i64 0, .int .i64 0, .string ⟨#[]⟩] 71)))
  have bx1 : Hid (((w.alloc (.cells #[.pointer (some ⟨pr, 0, none⟩)] 79)).alloc (.cells #[.int .i64 0, .int .i64 0, .int .i64 0, .string ⟨#[]⟩] 71)).heap[w.heap.size]? = some (.cells #[.pointer (some ⟨pr, 0, none⟩)] 79)) := by
    show _ = _
    rw [Below.heap_alloc _ _ _ (by simp)]; exact heap_alloc_new _ _
  have bx2 : Hid (((w.alloc (.cells #[.pointer (some ⟨pr, 0, none⟩)] 79)).alloc (.cells #[.int .i64 0, .int .i64 0, .int .i64 0, .string ⟨#[]⟩] 71)).heap[w.heap.size + 1]? = some (.cells #[.int .i64 0, .int .i64 0, .int .i64 0, .string ⟨#[]⟩] 71)) := by
    show _ = _
    have := heap_alloc_new (w.alloc (.cells #[.pointer (some ⟨pr, 0, none⟩)] 79)) (.cells #[.int .i64 0, .int .i64 0, .int .i64 0, .string ⟨#[]⟩] 71)
    simpa using this
  have H00 := D.hidIt h
  clear h
  unfold rv at *
  go_enter Tryz.func116, Tryz.ntmps116
  go_wp2_with fail
  generalize (w.alloc (.cells #[.pointer (some ⟨pr, 0, none⟩)] 79)).alloc (.cells #[.int .i64 0, .int .i64 0, .int .i64 0, .string ⟨#[]⟩] 71) = X at *
  have QS : Hid (∀ W, Only pr X.drew W → W.cell? ⟨w.heap.size, 0, none⟩ = some (.pointer (some ⟨pr, 0, none⟩))) := fun W ho => cell_row ((((Only.drewN pr X 1).trans ho).block w.heap.size (Array.getElem?_eq_some_iff.1 bx1.out).1 (by omega)).trans bx1.out) 0 rfl
  have QH : Hid (∀ W, Only pr X.drew W → W.heap[w.heap.size + 1]? = some (.cells #[.int .i64 0, .int .i64 0, .int .i64 0, .string ⟨#[]⟩] 71)) := fun W ho => (((Only.drewN pr X 1).trans ho).block (w.heap.size + 1) (Array.getElem?_eq_some_iff.1 bx2.out).1 (by omega)).trans bx2.out
  have R2 : IsR pr X.drew v l a y := R0.out.below (below_drewN (Below.refl _ _) 1)
  have HNE : Hid (w.heap.size ≠ w.heap.size + 1) := by show _ ≠ _; omega
  have N2 : Only pr X.drew X.drew := Only.refl _ _
  clear bx1 bx2 R0
  refine wp_region_noPanic ?_
  refine wp_region_held_drew (S := (fun W' => W'.cell? ⟨w.heap.size, 0, none⟩ = some (.pointer (some ⟨pr, 0, none⟩)))) (by kernel_rfl) ?_ (fun hHeld => ?_)
  · (try dsimp only); (first | (with_reducible exact QS.out _ N2) | (with_reducible exact QS.out _ N3) | (with_reducible exact QS.out _ N4) | (with_reducible exact QS.out _ N5) | (with_reducible exact QS.out _ N6) | (with_reducible exact off4 _ _ _ _ HNE.out K6.out))
  refine wpAnyH_take (i := 0) (oi := { dst := some 3, op := Go.Op.load 79 (Go.Operand.tmp 1), type := 79, pos := "bytes.go:144", after := #[], guard := none }) (v := ?vb1) rfl (by kernel_rfl) (by kernel_rfl) (by kernel_rfl) (fun _ _ _ h => h) (Or.inl ⟨by rfl, ?hyb1⟩) (by assumption) ?restb1
  case hyb1 => intro w hSw; (try dsimp only at hSw); go_simp; try with_reducible rfl
  try simp only [Act.put, List.setIfInBounds_toArray, List.set_cons_zero, List.set_cons_succ]
  refine wpAnyH_take (i := 2) (oi := { dst := some 5, op := Go.Op.load 79 (Go.Operand.tmp 1), type := 79, pos := "bytes.go:144", after := #[], guard := none }) (v := ?vb2) rfl (by kernel_rfl) (by kernel_rfl) (by kernel_rfl) (fun _ _ _ h => h) (Or.inl ⟨by rfl, ?hyb2⟩) (by assumption) ?restb2
  case hyb2 => intro w hSw; (try dsimp only at hSw); go_simp; try with_reducible rfl
  try simp only [Act.put, List.setIfInBounds_toArray, List.set_cons_zero, List.set_cons_succ]
  refine wpAnyH_take (i := 4) (oi := { dst := some 7, op := Go.Op.load 79 (Go.Operand.tmp 1), type := 79, pos := "bytes.go:144", after := #[], guard := none }) (v := ?vb3) rfl (by kernel_rfl) (by kernel_rfl) (by kernel_rfl) (fun _ _ _ h => h) (Or.inl ⟨by rfl, ?hyb3⟩) (by assumption) ?restb3
  case hyb3 => intro w hSw; (try dsimp only at hSw); go_simp; try with_reducible rfl
  try simp only [Act.put, List.setIfInBounds_toArray, List.set_cons_zero, List.set_cons_succ]
  refine wpAnyH_take (i := 6) (oi := { dst := some 9, op := Go.Op.fieldAddr 79 (Go.Operand.tmp 1) 0, type := 0, pos := "bytes.go:144", after := #[], guard := none }) (v := ?vb4) rfl (by kernel_rfl) (by kernel_rfl) (by kernel_rfl) (fun _ _ _ h => h) (Or.inl ⟨by rfl, ?hyb4⟩) (by assumption) ?restb4
  case hyb4 => intro w hSw; (try dsimp only at hSw); go_simp; try with_reducible rfl
  try simp only [Act.put, List.setIfInBounds_toArray, List.set_cons_zero, List.set_cons_succ]
  refine wpAnyH_take (i := 7) (oi := { dst := some 10, op := Go.Op.load 76 (Go.Operand.tmp 9), type := 76, pos := "bytes.go:144", after := #[{ on := 6, ground := Go.Ground.data }], guard := none }) (v := ?vb5) rfl (by kernel_rfl) (by kernel_rfl) (by kernel_rfl) (fun _ _ _ h => h) (Or.inl ⟨by rfl, ?hyb5⟩) (by assumption) ?restb5
  case hyb5 => intro w hSw; (try dsimp only at hSw); go_simp; try with_reducible rfl
  try simp only [Act.put, List.setIfInBounds_toArray, List.set_cons_zero, List.set_cons_succ]
  refine wpAnyH_ready (rs := [1]) (by kernel_rfl) (by simp) ?_
  refine AllReadyH.cons (o := { dst := some 4, op := Go.Op.call { callee := Go.Callee.value (Go.Operand.func 114), args := #[Go.Operand.tmp 3], argTypes := #[79] }, type := 3, pos := "bytes.go:144", after := #[{ on := 0, ground := Go.Ground.data }], guard := none }) rfl (fun K hK => ?_) AllReadyH.nil
  go_simp
  refine (g1 _ R2).out.mono ?_; rintro e w3 ⟨rfl, R3, on3⟩; have N3 := N2.trans on3
  try go_wp2_with fail
  refine hK.out _ _ ?hSb6 ?restb6
  case hSb6 => (try dsimp only); (first | (with_reducible exact QS.out _ N2) | (with_reducible exact QS.out _ N3) | (with_reducible exact QS.out _ N4) | (with_reducible exact QS.out _ N5) | (with_reducible exact QS.out _ N6) | (with_reducible exact off4 _ _ _ _ HNE.out K6.out))
  clear hK K hHeld
  intro hHeld
  try simp only [Act.put, List.setIfInBounds_toArray, List.set_cons_zero, List.set_cons_succ]
  refine wpAnyH_ready (rs := [3]) (by kernel_rfl) (by simp) ?_
  refine AllReadyH.cons (o := { dst := some 6, op := Go.Op.call { callee := Go.Callee.value (Go.Operand.func 114), args := #[Go.Operand.tmp 5], argTypes := #[79] }, type := 3, pos := "bytes.go:144", after := #[{ on := 2, ground := Go.Ground.data }, { on := 1, ground := Go.Ground.chain }], guard := none }) rfl (fun K hK => ?_) AllReadyH.nil
  go_simp
  refine (g2 _ R3).out.mono ?_; rintro e w4 ⟨rfl, R4, on4⟩; have N4 := N3.trans on4
  try go_wp2_with fail
  refine hK.out _ _ ?hSb7 ?restb7
  case hSb7 => (try dsimp only); (first | (with_reducible exact QS.out _ N2) | (with_reducible exact QS.out _ N3) | (with_reducible exact QS.out _ N4) | (with_reducible exact QS.out _ N5) | (with_reducible exact QS.out _ N6) | (with_reducible exact off4 _ _ _ _ HNE.out K6.out))
  clear hK K hHeld
  intro hHeld
  try simp only [Act.put, List.setIfInBounds_toArray, List.set_cons_zero, List.set_cons_succ]
  refine wpAnyH_ready (rs := [5]) (by kernel_rfl) (by simp) ?_
  refine AllReadyH.cons (o := { dst := some 8, op := Go.Op.call { callee := Go.Callee.value (Go.Operand.func 114), args := #[Go.Operand.tmp 7], argTypes := #[79] }, type := 3, pos := "bytes.go:144", after := #[{ on := 4, ground := Go.Ground.data }, { on := 3, ground := Go.Ground.chain }], guard := none }) rfl (fun K hK => ?_) AllReadyH.nil
  go_simp
  refine (g3 _ R4).out.mono ?_; rintro e w5 ⟨rfl, R5, on5⟩; have N5 := N4.trans on5
  try go_wp2_with fail
  refine hK.out _ _ ?hSb8 ?restb8
  case hSb8 => (try dsimp only); (first | (with_reducible exact QS.out _ N2) | (with_reducible exact QS.out _ N3) | (with_reducible exact QS.out _ N4) | (with_reducible exact QS.out _ N5) | (with_reducible exact QS.out _ N6) | (with_reducible exact off4 _ _ _ _ HNE.out K6.out))
  clear hK K hHeld
  intro hHeld
  try simp only [Act.put, List.setIfInBounds_toArray, List.set_cons_zero, List.set_cons_succ]
  refine wpAnyH_ready (rs := [8]) (by kernel_rfl) (by simp) ?_
  refine AllReadyH.cons (o := { dst := some 11, op := Go.Op.call { callee := Go.Callee.value (Go.Operand.func 68), args := #[Go.Operand.tmp 10], argTypes := #[76] }, type := 9, pos := "bytes.go:144", after := #[{ on := 7, ground := Go.Ground.data }, { on := 5, ground := Go.Ground.chain }], guard := none }) rfl (fun K hK => ?_) AllReadyH.nil
  go_simp
  refine (g4 _ R5).out.mono ?_; rintro e w6 ⟨rfl, R6, on6⟩; have N6 := N5.trans on6; have H6 := D.hidIt (QH.out w6 N6); have K6 := D.hidIt (QS.out w6 N6)
  try go_wp2_with fail
  refine hK.out _ _ ?hSb9 ?restb9
  case hSb9 => (try dsimp only); (first | (with_reducible exact QS.out _ N2) | (with_reducible exact QS.out _ N3) | (with_reducible exact QS.out _ N4) | (with_reducible exact QS.out _ N5) | (with_reducible exact QS.out _ N6) | (with_reducible exact off4 _ _ _ _ HNE.out K6.out))
  clear hK K hHeld
  intro hHeld
  try simp only [Act.put, List.setIfInBounds_toArray, List.set_cons_zero, List.set_cons_succ]
  refine wpAnyH_take (i := 9) (oi := { dst := some 12, op := Go.Op.build 71 #[(0, Go.Operand.tmp 4), (1, Go.Operand.tmp 6), (2, Go.Operand.tmp 8), (3, Go.Operand.tmp 11)], type := 71, pos := "bytes.go:144", after := #[{ on := 1, ground := Go.Ground.data }, { on := 3, ground := Go.Ground.data }, { on := 5, ground := Go.Ground.data }, { on := 8, ground := Go.Ground.data }], guard := none }) (v := ?vb10) rfl (by kernel_rfl) (by kernel_rfl) (by kernel_rfl) (fun _ _ _ h => h) (Or.inl ⟨by rfl, ?hyb10⟩) (by assumption) ?restb10
  case hyb10 => intro w hSw; (try dsimp only at hSw); go_simp; try with_reducible rfl
  try simp only [Act.put, List.setIfInBounds_toArray, List.set_cons_zero, List.set_cons_succ]
  refine wpAnyH_ready (rs := [10]) (by kernel_rfl) (by simp) ?_
  refine AllReadyH.cons (o := { dst := none, op := Go.Op.store 71 (Go.Operand.tmp 2) (Go.Operand.tmp 12), type := 0, pos := "bytes.go:144", after := #[{ on := 9, ground := Go.Ground.data }, { on := 8, ground := Go.Ground.chain }, { on := 0, ground := Go.Ground.phase }, { on := 1, ground := Go.Ground.phase }, { on := 2, ground := Go.Ground.phase }, { on := 3, ground := Go.Ground.phase }, { on := 4, ground := Go.Ground.phase }, { on := 5, ground := Go.Ground.phase }, { on := 6, ground := Go.Ground.phase }, { on := 7, ground := Go.Ground.phase }, { on := 8, ground := Go.Ground.phase }, { on := 9, ground := Go.Ground.phase }], guard := none }) rfl (fun K hK => ?_) AllReadyH.nil
  go_simp
  obtain ⟨f0, f1, f2, f3, ff⟩ := row4 H6.out
  try go_wp2_with fail
  refine hK.out _ _ ?hSb11 ?restb11
  case hSb11 => (try dsimp only); (first | (with_reducible exact QS.out _ N2) | (with_reducible exact QS.out _ N3) | (with_reducible exact QS.out _ N4) | (with_reducible exact QS.out _ N5) | (with_reducible exact QS.out _ N6) | (with_reducible exact off4 _ _ _ _ HNE.out K6.out))
  clear hK K hHeld
  intro hHeld
  try simp only [Act.put, List.setIfInBounds_toArray, List.set_cons_zero, List.set_cons_succ]
  refine wpAnyH_done (by kernel_rfl) ?_ _
  refine NoPanic.normal ?_
  have OO := D.hidIt (O0.out.trans ((Only.drewN pr X 1).trans N6))
  have FIN := D.hidIt (put4R (g := w.heap.size + 1) (.int .i64 n1) (.int .i64 n2) (.int .i64 n3) (.string s4) H00.out OO.out R6 (by omega))
  have H5 := D.hidIt (set4T (.int .i64 n1) (.int .i64 n2) (.int .i64 n3) (.string s4) H6.out)
  clear f0 f1 f2 f3 ff
  go_wp2
  refine bodyPost_ret (results_cell_row rfl _ _ (w.heap.size + 1) 71 _ (0, 0) _ rfl H5.out Tryz.underlying71 rfl (by kernel_rfl)) rfl ?_
  exact ⟨⟨[.int .i64 n1, .int .i64 n2, .int .i64 n3, .string s4], rfl, rfl, HSZ.out⟩, FIN.out.1, FIN.out.2⟩
  refine hK.out _ _ ?hSb911 ?restb911
  case hSb911 => (try dsimp only); (first | (with_reducible exact QS.out _ N2) | (with_reducible exact QS.out _ N3) | (with_reducible exact QS.out _ N4) | (with_reducible exact QS.out _ N5) | (with_reducible exact QS.out _ N6) | (with_reducible exact off4 _ _ _ _ HNE.out K6.out))
  clear hK K hHeld
  intro hHeld
  try simp only [Act.put, List.setIfInBounds_toArray, List.set_cons_zero, List.set_cons_succ]
  refine wpAnyH_done (by kernel_rfl) ?_ _
  refine NoPanic.normal ?_
  have OO := D.hidIt (O0.out.trans ((Only.drewN pr X 1).trans N6))
  have FIN := D.hidIt (put4R (g := w.heap.size + 1) (.int .i64 n1) (.int .i64 n2) (.int .i64 n3) (.string s4) H00.out OO.out R6 (by omega))
  have H5 := D.hidIt (set4T (.int .i64 n1) (.int .i64 n2) (.int .i64 n3) (.string s4) H6.out)
  clear f0 f1 f2 f3 ff
  go_wp2
  refine bodyPost_ret (results_cell_row rfl _ _ (w.heap.size + 1) 71 _ (0, 0) _ rfl H5.out Tryz.underlying71 rfl (by kernel_rfl)) rfl ?_
  exact ⟨⟨[.int .i64 n1, .int .i64 n2, .int .i64 n3, .string s4], rfl, rfl, HSZ.out⟩, FIN.out.1, FIN.out.2⟩
/-- A frame, read. -/
def rdR (l : List Int) (a : Nat) (y : Int) : RD × Nat × Int :=
  (⟨beVal (tk l a y 2).1, (rdLs l (rtext l) (tk l a y 2).2.1 (tk l a y 2).2.2).1, (rdLs l (rtext l) (rdLs l (rtext l) (tk l a y 2).2.1 (tk l a y 2).2.2).2.1 (rdLs l (rtext l) (tk l a y 2).2.1 (tk l a y 2).2.2).2.2).1⟩,
    (rdLs l (rtext l) (rdLs l (rtext l) (tk l a y 2).2.1 (tk l a y 2).2.2).2.1 (rdLs l (rtext l) (tk l a y 2).2.1 (tk l a y 2).2.2).2.2).2)
set_option maxRecDepth 8000 in
set_option maxHeartbeats 4000000 in
theorem one_rdR (pr : Nat) (v : Value) (l : List Int) (a : Nat) (y : Int) (w : World) (h : IsR pr w v l a y) :
    Calls Tryz.prog 118 #[rv pr] w fun e w' => (∃ r, e = .returned (.agg r.toArray) ∧ FrameQ w' r (rdR l a y).1) ∧ IsR pr w' v l (rdR l a y).2.1 (rdR l a y).2.2 ∧ Only pr w w' := by
  have hby : AllBytes l := by obtain ⟨_, _, _, _, _, h, _⟩ := h.view; exact h
  have g1 := fun W (h : IsR pr W v l a y) => D.hidIt (rd_pair pr v l a y W h)
  have gL : ∀ (W : World) (a : Nat) (y : Int), IsR pr W v l a y → Hid (Calls Tryz.prog 159 #[rv pr, .func (.func 68) #[.pointer (some ⟨pr, 0, none⟩)] #[]] W fun e w' => ∃ u, e = .returned u ∧ OL W.heap.size 9 1 TextR w' u (rdLs l (rtext l) a y).1 ∧ IsR pr w' v l (rdLs l (rtext l) a y).2.1 (rdLs l (rtext l) a y).2.2 ∧ Only pr W w') := fun W a y h =>
    rd_listS pr v l (rtext l) (fun W a y h => (rtext_any pr v l a y W h).mono fun e w' ⟨e1, e2, e3⟩ => ⟨⟨e1, rfl, by have := rtext_small l a y hby; omega⟩, e2, e3⟩) a y W h
  unfold rdR
  generalize tk l a y 2 = T1 at *
  obtain ⟨t1, a1, y1⟩ := T1
  simp only at *
  have g2 := fun W (h : IsR pr W v l a1 y1) => gL W a1 y1 h
  generalize rdLs l (rtext l) a1 y1 = T2 at *
  obtain ⟨t2, a2, y2⟩ := T2
  simp only at *
  have g3 := fun W (h : IsR pr W v l a2 y2) => gL W a2 y2 h
  generalize rdLs l (rtext l) a2 y2 = T3 at *
  obtain ⟨t3, a3, y3⟩ := T3
  simp only at *
  generalize beVal t1 = n1 at *
  clear hby gL
  have hlt := h.lt
  have HL : Hid (l.length ≤ l.length) := Nat.le_refl _
  have O0 := D.hidIt ((only_alloc pr w (.cells #[.pointer (some ⟨pr, 0, none⟩)] 79)).trans (only_alloc pr _ (.cells #[.int .i64 0, .slice none 0 0, .slice none 0 0] 74)))
  have R0 := D.hidIt ((h.below (balloc w (.cells #[.pointer (some ⟨pr, 0, none⟩)] 79))).below (balloc _ (.cells #[.int .i64 0, .slice none 0 0, .slice none 0 0] 74)))
  have bx1 : Hid (((w.alloc (.cells #[.pointer (some ⟨pr, 0, none⟩)] 79)).alloc (.cells #[.int .i64 0, .slice none 0 0, .slice none 0 0] 74)).heap[w.heap.size]? = some (.cells #[.pointer (some ⟨pr, 0, none⟩)] 79)) := by
    show _ = _
    rw [Below.heap_alloc _ _ _ (by simp)]; exact heap_alloc_new _ _
  have bx2 : Hid (((w.alloc (.cells #[.pointer (some ⟨pr, 0, none⟩)] 79)).alloc (.cells #[.int .i64 0, .slice none 0 0, .slice none 0 0] 74)).heap[w.heap.size + 1]? = some (.cells #[.int .i64 0, .slice none 0 0, .slice none 0 0] 74)) := by
    show _ = _
    have := heap_alloc_new (w.alloc (.cells #[.pointer (some ⟨pr, 0, none⟩)] 79)) (.cells #[.int .i64 0, .slice none 0 0, .slice none 0 0] 74)
    simpa using this
  have H00 := D.hidIt h
  clear h
  unfold rv at *
  go_enter Tryz.func118, Tryz.ntmps118
  go_wp2_with fail
  generalize (w.alloc (.cells #[.pointer (some ⟨pr, 0, none⟩)] 79)).alloc (.cells #[.int .i64 0, .slice none 0 0, .slice none 0 0] 74) = X at *
  have QS : Hid (∀ W, Only pr X.drew W → W.cell? ⟨w.heap.size, 0, none⟩ = some (.pointer (some ⟨pr, 0, none⟩))) := fun W ho => cell_row ((((Only.drewN pr X 1).trans ho).block w.heap.size (Array.getElem?_eq_some_iff.1 bx1.out).1 (by omega)).trans bx1.out) 0 rfl
  have QH : Hid (∀ W, Only pr X.drew W → W.heap[w.heap.size + 1]? = some (.cells #[.int .i64 0, .slice none 0 0, .slice none 0 0] 74)) := fun W ho => (((Only.drewN pr X 1).trans ho).block (w.heap.size + 1) (Array.getElem?_eq_some_iff.1 bx2.out).1 (by omega)).trans bx2.out
  have R2 : IsR pr X.drew v l a y := R0.out.below (below_drewN (Below.refl _ _) 1)
  have HNE : Hid (w.heap.size ≠ w.heap.size + 1) := by show _ ≠ _; omega
  have N2 : Only pr X.drew X.drew := Only.refl _ _
  clear bx1 bx2 R0
  refine wp_region_noPanic ?_
  refine wp_region_held_drew (S := (fun W' => W'.cell? ⟨w.heap.size, 0, none⟩ = some (.pointer (some ⟨pr, 0, none⟩)))) (by kernel_rfl) ?_ (fun hHeld => ?_)
  · (try dsimp only); (first | (with_reducible exact QS.out _ N2) | (with_reducible exact QS.out _ N3) | (with_reducible exact QS.out _ N4) | (with_reducible exact QS.out _ N5) | (with_reducible exact off3 _ _ _ HNE.out K5.out))
  refine wpAnyH_take (i := 0) (oi := { dst := some 3, op := Go.Op.load 79 (Go.Operand.tmp 1), type := 79, pos := "bytes.go:148", after := #[], guard := none }) (v := ?vb1) rfl (by kernel_rfl) (by kernel_rfl) (by kernel_rfl) (fun _ _ _ h => h) (Or.inl ⟨by rfl, ?hyb1⟩) (by assumption) ?restb1
  case hyb1 => intro w hSw; (try dsimp only at hSw); go_simp; try with_reducible rfl
  try simp only [Act.put, List.setIfInBounds_toArray, List.set_cons_zero, List.set_cons_succ]
  refine wpAnyH_take (i := 2) (oi := { dst := some 5, op := Go.Op.load 79 (Go.Operand.tmp 1), type := 79, pos := "bytes.go:148", after := #[], guard := none }) (v := ?vb2) rfl (by kernel_rfl) (by kernel_rfl) (by kernel_rfl) (fun _ _ _ h => h) (Or.inl ⟨by rfl, ?hyb2⟩) (by assumption) ?restb2
  case hyb2 => intro w hSw; (try dsimp only at hSw); go_simp; try with_reducible rfl
  try simp only [Act.put, List.setIfInBounds_toArray, List.set_cons_zero, List.set_cons_succ]
  refine wpAnyH_take (i := 3) (oi := { dst := some 6, op := Go.Op.fieldAddr 79 (Go.Operand.tmp 1) 0, type := 0, pos := "bytes.go:148", after := #[], guard := none }) (v := ?vb3) rfl (by kernel_rfl) (by kernel_rfl) (by kernel_rfl) (fun _ _ _ h => h) (Or.inl ⟨by rfl, ?hyb3⟩) (by assumption) ?restb3
  case hyb3 => intro w hSw; (try dsimp only at hSw); go_simp; try with_reducible rfl
  try simp only [Act.put, List.setIfInBounds_toArray, List.set_cons_zero, List.set_cons_succ]
  refine wpAnyH_take (i := 4) (oi := { dst := some 7, op := Go.Op.load 76 (Go.Operand.tmp 6), type := 76, pos := "bytes.go:148", after := #[{ on := 3, ground := Go.Ground.data }], guard := none }) (v := ?vb4) rfl (by kernel_rfl) (by kernel_rfl) (by kernel_rfl) (fun _ _ _ h => h) (Or.inl ⟨by rfl, ?hyb4⟩) (by assumption) ?restb4
  case hyb4 => intro w hSw; (try dsimp only at hSw); go_simp; try with_reducible rfl
  try simp only [Act.put, List.setIfInBounds_toArray, List.set_cons_zero, List.set_cons_succ]
  refine wpAnyH_take (i := 5) (oi := { dst := some 8, op := Go.Op.makeFunc (Go.Fn.func 68) #[Go.Operand.tmp 7] #[], type := 109, pos := "bytes.go:148", after := #[{ on := 4, ground := Go.Ground.data }], guard := none }) (v := ?vb5) rfl (by kernel_rfl) (by kernel_rfl) (by kernel_rfl) (fun _ _ _ h => h) (Or.inl ⟨by rfl, ?hyb5⟩) (by assumption) ?restb5
  case hyb5 => intro w hSw; (try dsimp only at hSw); go_simp; try with_reducible rfl
  try simp only [Act.put, List.setIfInBounds_toArray, List.set_cons_zero, List.set_cons_succ]
  refine wpAnyH_take (i := 7) (oi := { dst := some 10, op := Go.Op.load 79 (Go.Operand.tmp 1), type := 79, pos := "bytes.go:148", after := #[], guard := none }) (v := ?vb6) rfl (by kernel_rfl) (by kernel_rfl) (by kernel_rfl) (fun _ _ _ h => h) (Or.inl ⟨by rfl, ?hyb6⟩) (by assumption) ?restb6
  case hyb6 => intro w hSw; (try dsimp only at hSw); go_simp; try with_reducible rfl
  try simp only [Act.put, List.setIfInBounds_toArray, List.set_cons_zero, List.set_cons_succ]
  refine wpAnyH_take (i := 8) (oi := { dst := some 11, op := Go.Op.fieldAddr 79 (Go.Operand.tmp 1) 0, type := 0, pos := "bytes.go:148", after := #[], guard := none }) (v := ?vb7) rfl (by kernel_rfl) (by kernel_rfl) (by kernel_rfl) (fun _ _ _ h => h) (Or.inl ⟨by rfl, ?hyb7⟩) (by assumption) ?restb7
  case hyb7 => intro w hSw; (try dsimp only at hSw); go_simp; try with_reducible rfl
  try simp only [Act.put, List.setIfInBounds_toArray, List.set_cons_zero, List.set_cons_succ]
  refine wpAnyH_take (i := 9) (oi := { dst := some 12, op := Go.Op.load 76 (Go.Operand.tmp 11), type := 76, pos := "bytes.go:148", after := #[{ on := 8, ground := Go.Ground.data }], guard := none }) (v := ?vb8) rfl (by kernel_rfl) (by kernel_rfl) (by kernel_rfl) (fun _ _ _ h => h) (Or.inl ⟨by rfl, ?hyb8⟩) (by assumption) ?restb8
  case hyb8 => intro w hSw; (try dsimp only at hSw); go_simp; try with_reducible rfl
  try simp only [Act.put, List.setIfInBounds_toArray, List.set_cons_zero, List.set_cons_succ]
  refine wpAnyH_take (i := 10) (oi := { dst := some 13, op := Go.Op.makeFunc (Go.Fn.func 68) #[Go.Operand.tmp 12] #[], type := 109, pos := "bytes.go:148", after := #[{ on := 9, ground := Go.Ground.data }], guard := none }) (v := ?vb9) rfl (by kernel_rfl) (by kernel_rfl) (by kernel_rfl) (fun _ _ _ h => h) (Or.inl ⟨by rfl, ?hyb9⟩) (by assumption) ?restb9
  case hyb9 => intro w hSw; (try dsimp only at hSw); go_simp; try with_reducible rfl
  try simp only [Act.put, List.setIfInBounds_toArray, List.set_cons_zero, List.set_cons_succ]
  refine wpAnyH_ready (rs := [1]) (by kernel_rfl) (by simp) ?_
  refine AllReadyH.cons (o := { dst := some 4, op := Go.Op.call { callee := Go.Callee.value (Go.Operand.func 114), args := #[Go.Operand.tmp 3], argTypes := #[79] }, type := 3, pos := "bytes.go:148", after := #[{ on := 0, ground := Go.Ground.data }], guard := none }) rfl (fun K hK => ?_) AllReadyH.nil
  go_simp
  refine (g1 _ R2).out.mono ?_; rintro e w3 ⟨rfl, R3, on3⟩; have N3 := N2.trans on3
  try go_wp2_with fail
  refine hK.out _ _ ?hSb10 ?restb10
  case hSb10 => (try dsimp only); (first | (with_reducible exact QS.out _ N2) | (with_reducible exact QS.out _ N3) | (with_reducible exact QS.out _ N4) | (with_reducible exact QS.out _ N5) | (with_reducible exact off3 _ _ _ HNE.out K5.out))
  clear hK K hHeld
  intro hHeld
  try simp only [Act.put, List.setIfInBounds_toArray, List.set_cons_zero, List.set_cons_succ]
  refine wpAnyH_ready (rs := [6]) (by kernel_rfl) (by simp) ?_
  refine AllReadyH.cons (o := { dst := some 9, op := Go.Op.call { callee := Go.Callee.value (Go.Operand.func 159), args := #[Go.Operand.tmp 5, Go.Operand.tmp 8], argTypes := #[79, 109] }, type := 72, pos := "bytes.go:148", after := #[{ on := 2, ground := Go.Ground.data }, { on := 5, ground := Go.Ground.data }, { on := 1, ground := Go.Ground.chain }], guard := none }) rfl (fun K hK => ?_) AllReadyH.nil
  go_simp
  refine (g2 _ R3).out.mono ?_; rintro e w4 ⟨u4, rfl, ol4, R4, on4⟩; have N4 := N3.trans on4; obtain ⟨ao4, c4, rfl⟩ := ol4.slice; have OL4 := D.hidIt ol4; clear ol4
  try go_wp2_with fail
  refine hK.out _ _ ?hSb11 ?restb11
  case hSb11 => (try dsimp only); (first | (with_reducible exact QS.out _ N2) | (with_reducible exact QS.out _ N3) | (with_reducible exact QS.out _ N4) | (with_reducible exact QS.out _ N5) | (with_reducible exact off3 _ _ _ HNE.out K5.out))
  clear hK K hHeld
  intro hHeld
  try simp only [Act.put, List.setIfInBounds_toArray, List.set_cons_zero, List.set_cons_succ]
  refine wpAnyH_ready (rs := [11]) (by kernel_rfl) (by simp) ?_
  refine AllReadyH.cons (o := { dst := some 14, op := Go.Op.call { callee := Go.Callee.value (Go.Operand.func 159), args := #[Go.Operand.tmp 10, Go.Operand.tmp 13], argTypes := #[79, 109] }, type := 72, pos := "bytes.go:148", after := #[{ on := 7, ground := Go.Ground.data }, { on := 10, ground := Go.Ground.data }, { on := 6, ground := Go.Ground.chain }], guard := none }) rfl (fun K hK => ?_) AllReadyH.nil
  go_simp
  refine (g3 _ R4).out.mono ?_; rintro e w5 ⟨u5, rfl, ol5, R5, on5⟩; have N5 := N4.trans on5; obtain ⟨ao5, c5, rfl⟩ := ol5.slice; have OL5 := D.hidIt ol5; have OL4' := D.hidIt (text_same OL4.out (Same.of_only R4 on5 (by decide))); clear ol5 OL4; have H5' := D.hidIt (QH.out w5 N5); have H5 := H5'; have K5 := D.hidIt (QS.out w5 N5)
  try go_wp2_with fail
  refine hK.out _ _ ?hSb12 ?restb12
  case hSb12 => (try dsimp only); (first | (with_reducible exact QS.out _ N2) | (with_reducible exact QS.out _ N3) | (with_reducible exact QS.out _ N4) | (with_reducible exact QS.out _ N5) | (with_reducible exact off3 _ _ _ HNE.out K5.out))
  clear hK K hHeld
  intro hHeld
  try simp only [Act.put, List.setIfInBounds_toArray, List.set_cons_zero, List.set_cons_succ]
  refine wpAnyH_take (i := 12) (oi := { dst := some 15, op := Go.Op.build 74 #[(0, Go.Operand.tmp 4), (1, Go.Operand.tmp 9), (2, Go.Operand.tmp 14)], type := 74, pos := "bytes.go:148", after := #[{ on := 1, ground := Go.Ground.data }, { on := 6, ground := Go.Ground.data }, { on := 11, ground := Go.Ground.data }], guard := none }) (v := ?vb13) rfl (by kernel_rfl) (by kernel_rfl) (by kernel_rfl) (fun _ _ _ h => h) (Or.inl ⟨by rfl, ?hyb13⟩) (by assumption) ?restb13
  case hyb13 => intro w hSw; (try dsimp only at hSw); go_simp; try with_reducible rfl
  try simp only [Act.put, List.setIfInBounds_toArray, List.set_cons_zero, List.set_cons_succ]
  refine wpAnyH_ready (rs := [13]) (by kernel_rfl) (by simp) ?_
  refine AllReadyH.cons (o := { dst := none, op := Go.Op.store 74 (Go.Operand.tmp 2) (Go.Operand.tmp 15), type := 0, pos := "bytes.go:148", after := #[{ on := 12, ground := Go.Ground.data }, { on := 11, ground := Go.Ground.chain }, { on := 0, ground := Go.Ground.phase }, { on := 1, ground := Go.Ground.phase }, { on := 2, ground := Go.Ground.phase }, { on := 3, ground := Go.Ground.phase }, { on := 4, ground := Go.Ground.phase }, { on := 5, ground := Go.Ground.phase }, { on := 6, ground := Go.Ground.phase }, { on := 7, ground := Go.Ground.phase }, { on := 8, ground := Go.Ground.phase }, { on := 9, ground := Go.Ground.phase }, { on := 10, ground := Go.Ground.phase }, { on := 11, ground := Go.Ground.phase }, { on := 12, ground := Go.Ground.phase }], guard := none }) rfl (fun K hK => ?_) AllReadyH.nil
  go_simp
  obtain ⟨f0, f1, f2, ff⟩ := row3 H5.out
  try go_wp2_with fail
  refine hK.out _ _ ?hSb14 ?restb14
  case hSb14 => (try dsimp only); (first | (with_reducible exact QS.out _ N2) | (with_reducible exact QS.out _ N3) | (with_reducible exact QS.out _ N4) | (with_reducible exact QS.out _ N5) | (with_reducible exact off3 _ _ _ HNE.out K5.out))
  clear hK K hHeld
  intro hHeld
  try simp only [Act.put, List.setIfInBounds_toArray, List.set_cons_zero, List.set_cons_succ]
  refine wpAnyH_done (by kernel_rfl) ?_ _
  refine NoPanic.normal ?_
  have OO := D.hidIt (O0.out.trans ((Only.drewN pr X 1).trans N5))
  have FIN := D.hidIt (put3R (g := w.heap.size + 1) (.int .i64 n1) (.slice ao4 t2.length c4) (.slice ao5 t3.length c5) H00.out OO.out R5 (by omega))
  have H5 := D.hidIt (set3T (.int .i64 n1) (.slice ao4 t2.length c4) (.slice ao5 t3.length c5) H5.out)
  have SM := same3 (T := 9) (.int .i64 n1) (.slice ao4 t2.length c4) (.slice ao5 t3.length c5) H5'.out (by decide)
  have Q4 := D.hidIt ((text_same OL4'.out SM).base (Nat.zero_le _))
  have Q5 := D.hidIt ((text_same OL5.out SM).base (Nat.zero_le _))
  clear SM OL4' OL5
  clear f0 f1 f2 ff
  go_wp2
  refine bodyPost_ret (results_cell_row rfl _ _ (w.heap.size + 1) 74 _ (0, 0) _ rfl H5.out Tryz.underlying74 rfl (by kernel_rfl)) rfl ?_
  exact ⟨⟨[.int .i64 n1, .slice ao4 t2.length c4, .slice ao5 t3.length c5], rfl, _, _, rfl, Q4.out, Q5.out⟩, FIN.out.1, FIN.out.2⟩
  refine hK.out _ _ ?hSb914 ?restb914
  case hSb914 => (try dsimp only); (first | (with_reducible exact QS.out _ N2) | (with_reducible exact QS.out _ N3) | (with_reducible exact QS.out _ N4) | (with_reducible exact QS.out _ N5) | (with_reducible exact off3 _ _ _ HNE.out K5.out))
  clear hK K hHeld
  intro hHeld
  try simp only [Act.put, List.setIfInBounds_toArray, List.set_cons_zero, List.set_cons_succ]
  refine wpAnyH_done (by kernel_rfl) ?_ _
  refine NoPanic.normal ?_
  have OO := D.hidIt (O0.out.trans ((Only.drewN pr X 1).trans N5))
  have FIN := D.hidIt (put3R (g := w.heap.size + 1) (.int .i64 n1) (.slice ao4 t2.length c4) (.slice ao5 t3.length c5) H00.out OO.out R5 (by omega))
  have H5 := D.hidIt (set3T (.int .i64 n1) (.slice ao4 t2.length c4) (.slice ao5 t3.length c5) H5.out)
  have SM := same3 (T := 9) (.int .i64 n1) (.slice ao4 t2.length c4) (.slice ao5 t3.length c5) H5'.out (by decide)
  have Q4 := D.hidIt ((text_same OL4'.out SM).base (Nat.zero_le _))
  have Q5 := D.hidIt ((text_same OL5.out SM).base (Nat.zero_le _))
  clear SM OL4' OL5
  clear f0 f1 f2 ff
  go_wp2
  refine bodyPost_ret (results_cell_row rfl _ _ (w.heap.size + 1) 74 _ (0, 0) _ rfl H5.out Tryz.underlying74 rfl (by kernel_rfl)) rfl ?_
  exact ⟨⟨[.int .i64 n1, .slice ao4 t2.length c4, .slice ao5 t3.length c5], rfl, _, _, rfl, Q4.out, Q5.out⟩, FIN.out.1, FIN.out.2⟩
end Go.Proofs.YthagaldpopnoeaaGreatDoor

/- A field, read: walked. -/
namespace Go.Proofs.YthagaldpopnoeaaGreatDoor
open Go.RowKit D

/-- The flags: the number, the place, the refusal. -/
def rdG (k : Int) (l : List Int) (a : Nat) (y : Int) : Int × Nat × Int :=
  (beVal (tk l a y 1).1, (tk l a y 1).2.1, if k < beVal (tk l a y 1).1 then fl (tk l a y 1).2.2 12 else (tk l a y 1).2.2)
theorem rdG_any (pr : Nat) (v : Value) (l : List Int) (a : Nat) (y : Int) (k : Int) (w : World) (h : IsR pr w v l a y) :
    Calls Tryz.prog 113 #[rv pr, .int .i64 k] w fun e w' => e = .returned (.int .i64 (rdG k l a y).1) ∧ IsR pr w' v l (rdG k l a y).2.1 (rdG k l a y).2.2 ∧ Only pr w w' := rd_flags pr v l a y k w h
theorem rdG_range (k : Int) (l : List Int) (a : Nat) (y : Int) (hb : AllBytes l) : 0 ≤ (rdG k l a y).1 ∧ (rdG k l a y).1 ≤ 255 :=
  beVal_one _ (tk_bytes _ _ _ _ hb) (by have := (tk_len l a y 1).1; omega)
/-- A field, read. -/
def rdF (l : List Int) (a : Nat) (y : Int) : FD × Nat × Int :=
  (⟨(rtext l a y).1, (rtext l (rtext l a y).2.1 (rtext l a y).2.2).1, decide ((rdG 1 l (rtext l (rtext l a y).2.1 (rtext l a y).2.2).2.1 (rtext l (rtext l a y).2.1 (rtext l a y).2.2).2.2).1 % 2 = 1)⟩,
    (rdG 1 l (rtext l (rtext l a y).2.1 (rtext l a y).2.2).2.1 (rtext l (rtext l a y).2.1 (rtext l a y).2.2).2.2).2)
theorem and_one (n : Int) (h0 : 0 ≤ n) (h1 : n ≤ 255) : bits .and .i64 n 1 = n % 2 := by
  have e : ∀ j : Fin 256, bits .and .i64 (j.val : Int) 1 = (j.val : Int) % 2 := by decide +kernel
  have := e ⟨n.toNat, by omega⟩
  simpa [Int.toNat_of_nonneg h0] using this
theorem and_two (n : Int) (h0 : 0 ≤ n) (h1 : n ≤ 255) : bits .and .i64 n 2 = n / 2 % 2 * 2 := by
  have e : ∀ j : Fin 256, bits .and .i64 (j.val : Int) 2 = (j.val : Int) / 2 % 2 * 2 := by decide +kernel
  have := e ⟨n.toNat, by omega⟩
  simpa [Int.toNat_of_nonneg h0] using this
set_option maxRecDepth 8000 in
set_option maxHeartbeats 4000000 in
theorem one_rdF (pr : Nat) (v : Value) (l : List Int) (a : Nat) (y : Int) (w : World) (h : IsR pr w v l a y) :
    Calls Tryz.prog 70 #[rv pr] w fun e w' => (∃ r, e = .returned (.agg r.toArray) ∧ FieldR w' r (rdF l a y).1) ∧ IsR pr w' v l (rdF l a y).2.1 (rdF l a y).2.2 ∧ Only pr w w' := by
  have hby : AllBytes l := by obtain ⟨_, _, _, _, _, h, _⟩ := h.view; exact h
  have g1 := fun W (h : IsR pr W v l a y) => D.hidIt (rtext_any pr v l a y W h)
  have hs1 := rtext_small l a y hby
  unfold rdF
  generalize rtext l a y = T1 at *
  obtain ⟨nm, a1, y1⟩ := T1
  simp only at *
  have g2 := fun W (h : IsR pr W v l a1 y1) => D.hidIt (rtext_any pr v l a1 y1 W h)
  have hs2 := rtext_small l a1 y1 hby
  generalize rtext l a1 y1 = T2 at *
  obtain ⟨ds, a2, y2⟩ := T2
  simp only at *
  have g3 := fun W (h : IsR pr W v l a2 y2) => D.hidIt (rdG_any pr v l a2 y2 1 W h)
  obtain ⟨hn0, hn1⟩ := rdG_range 1 l a2 y2 hby
  generalize rdG 1 l a2 y2 = T3 at *
  obtain ⟨fn, a3, y3⟩ := T3
  simp only at *
  have hand := and_one fn hn0 hn1
  have HS1 : Hid (nm.size ≤ 9223372036854775807) := by show _ ≤ _; omega
  have HS2 : Hid (ds.size ≤ 9223372036854775807) := by show _ ≤ _; omega
  have hm : fn % 2 = 0 ∨ fn % 2 = 1 := by omega
  have HAND := D.hidIt hand
  have HM := D.hidIt hm
  clear hs1 hs2 hby hn0 hn1 hand hm
  have hlt := h.lt
  have HL : Hid (l.length ≤ l.length) := Nat.le_refl _
  have O0 := D.hidIt ((only_alloc pr w (.cells #[.pointer (some ⟨pr, 0, none⟩)] 79)).trans (only_alloc pr _ (.cells #[.string ⟨#[]⟩, .string ⟨#[]⟩, .bool false] 63)))
  have R0 := D.hidIt ((h.below (balloc w (.cells #[.pointer (some ⟨pr, 0, none⟩)] 79))).below (balloc _ (.cells #[.string ⟨#[]⟩, .string ⟨#[]⟩, .bool false] 63)))
  have bx1 : Hid (((w.alloc (.cells #[.pointer (some ⟨pr, 0, none⟩)] 79)).alloc (.cells #[.string ⟨#[]⟩, .string ⟨#[]⟩, .bool false] 63)).heap[w.heap.size]? = some (.cells #[.pointer (some ⟨pr, 0, none⟩)] 79)) := by
    show _ = _
    rw [Below.heap_alloc _ _ _ (by simp)]; exact heap_alloc_new _ _
  have bx2 : Hid (((w.alloc (.cells #[.pointer (some ⟨pr, 0, none⟩)] 79)).alloc (.cells #[.string ⟨#[]⟩, .string ⟨#[]⟩, .bool false] 63)).heap[w.heap.size + 1]? = some (.cells #[.string ⟨#[]⟩, .string ⟨#[]⟩, .bool false] 63)) := by
    show _ = _
    have := heap_alloc_new (w.alloc (.cells #[.pointer (some ⟨pr, 0, none⟩)] 79)) (.cells #[.string ⟨#[]⟩, .string ⟨#[]⟩, .bool false] 63)
    simpa using this
  have H00 := D.hidIt h
  clear h
  unfold rv at *
  go_enter Tryz.func70, Tryz.ntmps70
  go_upto_region 1 with fail
  generalize (w.alloc (.cells #[.pointer (some ⟨pr, 0, none⟩)] 79)).alloc (.cells #[.string ⟨#[]⟩, .string ⟨#[]⟩, .bool false] 63) = X at *
  have QS : Hid (∀ W, Only pr X.drew W → W.cell? ⟨w.heap.size, 0, none⟩ = some (.pointer (some ⟨pr, 0, none⟩))) := fun W ho => cell_row ((((Only.drewN pr X 1).trans ho).block w.heap.size (Array.getElem?_eq_some_iff.1 bx1.out).1 (by omega)).trans bx1.out) 0 rfl
  have QH : Hid (∀ W, Only pr X.drew W → W.heap[w.heap.size + 1]? = some (.cells #[.string ⟨#[]⟩, .string ⟨#[]⟩, .bool false] 63)) := fun W ho => (((Only.drewN pr X 1).trans ho).block (w.heap.size + 1) (Array.getElem?_eq_some_iff.1 bx2.out).1 (by omega)).trans bx2.out
  have R2 : IsR pr X.drew v l a y := R0.out.below (below_drewN (Below.refl _ _) 1)
  have HNE : Hid (w.heap.size ≠ w.heap.size + 1) := by show _ ≠ _; omega
  have N2 : Only pr X.drew X.drew := Only.refl _ _
  have BX1 := bx1
  have BX2 := bx2
  have RX := R0
  have hX : w.heap.size + 2 ≤ X.heap.size := by have := (Array.getElem?_eq_some_iff.1 bx2.out).1; omega
  clear bx1 bx2 R0
  go_cut [3] from 4 to 10 (fun p wx => ∃ g : Nat, p = .pointer (some ⟨g, 0, none⟩) ∧ X.heap.size ≤ g ∧ wx.heap[g]? = some (.cells #[.string nm, .string ds, .bool false] 63) ∧ IsR pr wx v l a2 y2 ∧ Only pr X wx)
  case first =>
    refine wp_region_noPanic ?_
    refine wp_region_held_drew (S := (fun W' => W'.cell? ⟨w.heap.size, 0, none⟩ = some (.pointer (some ⟨pr, 0, none⟩)))) (by kernel_rfl) ?_ (fun hHeld => ?_)
    · (try dsimp only); (first | (with_reducible exact QS.out _ N2) | (with_reducible exact KK.out) | (with_reducible exact off3 _ _ _ HNG.out KK.out))
    refine wpAnyH_take (i := 0) (oi := { dst := some 4, op := Go.Op.fieldAddr 79 (Go.Operand.tmp 1) 0, type := 0, pos := "bytes.go:127", after := #[], guard := none }) (v := ?vb1) rfl (by kernel_rfl) (by kernel_rfl) (by kernel_rfl) (fun _ _ _ h => h) (Or.inl ⟨by rfl, ?hyb1⟩) (by assumption) ?restb1
    case hyb1 => intro w hSw; (try dsimp only at hSw); go_simp; try with_reducible rfl
    try simp only [Act.put, List.setIfInBounds_toArray, List.set_cons_zero, List.set_cons_succ]
    refine wpAnyH_take (i := 1) (oi := { dst := some 5, op := Go.Op.load 76 (Go.Operand.tmp 4), type := 76, pos := "bytes.go:127", after := #[{ on := 0, ground := Go.Ground.data }], guard := none }) (v := ?vb2) rfl (by kernel_rfl) (by kernel_rfl) (by kernel_rfl) (fun _ _ _ h => h) (Or.inl ⟨by rfl, ?hyb2⟩) (by assumption) ?restb2
    case hyb2 => intro w hSw; (try dsimp only at hSw); go_simp; try with_reducible rfl
    try simp only [Act.put, List.setIfInBounds_toArray, List.set_cons_zero, List.set_cons_succ]
    refine wpAnyH_take (i := 3) (oi := { dst := some 7, op := Go.Op.fieldAddr 79 (Go.Operand.tmp 1) 0, type := 0, pos := "bytes.go:127", after := #[], guard := none }) (v := ?vb3) rfl (by kernel_rfl) (by kernel_rfl) (by kernel_rfl) (fun _ _ _ h => h) (Or.inl ⟨by rfl, ?hyb3⟩) (by assumption) ?restb3
    case hyb3 => intro w hSw; (try dsimp only at hSw); go_simp; try with_reducible rfl
    try simp only [Act.put, List.setIfInBounds_toArray, List.set_cons_zero, List.set_cons_succ]
    refine wpAnyH_take (i := 4) (oi := { dst := some 8, op := Go.Op.load 76 (Go.Operand.tmp 7), type := 76, pos := "bytes.go:127", after := #[{ on := 3, ground := Go.Ground.data }], guard := none }) (v := ?vb4) rfl (by kernel_rfl) (by kernel_rfl) (by kernel_rfl) (fun _ _ _ h => h) (Or.inl ⟨by rfl, ?hyb4⟩) (by assumption) ?restb4
    case hyb4 => intro w hSw; (try dsimp only at hSw); go_simp; try with_reducible rfl
    try simp only [Act.put, List.setIfInBounds_toArray, List.set_cons_zero, List.set_cons_succ]
    refine wpAnyH_ready (rs := [2, 7]) (by kernel_rfl) (by simp) ?_
    refine AllReadyH.cons (o := { dst := some 6, op := Go.Op.call { callee := Go.Callee.value (Go.Operand.func 68), args := #[Go.Operand.tmp 5], argTypes := #[76] }, type := 9, pos := "bytes.go:127", after := #[{ on := 1, ground := Go.Ground.data }], guard := none }) rfl (fun K hK => ?_) (AllReadyH.cons (o := { dst := some 3, op := Go.Op.alloc 63, type := 0, pos := "bytes.go:127", after := #[], guard := none }) rfl (fun K hK => ?_) (AllReadyH.nil))
    · go_simp
      refine (g1 _ R2).out.mono ?_; rintro e w3 ⟨rfl, R3, on3⟩; have N3 := N2.trans on3
      try go_wp2_with fail
      refine hK.out _ _ ?hSb5 ?restb5
      case hSb5 => (try dsimp only); (first | (with_reducible exact QS.out _ N2) | (with_reducible exact QS.out _ N3) | (with_reducible exact KK.out) | (with_reducible exact off3 _ _ _ HNG.out KK.out))
      clear hK K hHeld
      intro hHeld
      try simp only [Act.put, List.setIfInBounds_toArray, List.set_cons_zero, List.set_cons_succ]
      refine wpAnyH_ready (rs := [5, 7]) (by kernel_rfl) (by simp) ?_
      refine AllReadyH.cons (o := { dst := some 9, op := Go.Op.call { callee := Go.Callee.value (Go.Operand.func 68), args := #[Go.Operand.tmp 8], argTypes := #[76] }, type := 9, pos := "bytes.go:127", after := #[{ on := 4, ground := Go.Ground.data }, { on := 2, ground := Go.Ground.chain }], guard := none }) rfl (fun K hK => ?_) (AllReadyH.cons (o := { dst := some 3, op := Go.Op.alloc 63, type := 0, pos := "bytes.go:127", after := #[], guard := none }) rfl (fun K hK => ?_) (AllReadyH.nil))
      · go_simp
        refine (g2 _ R3).out.mono ?_; rintro e w4 ⟨rfl, R4, on4⟩; have N4 := N3.trans on4
        try go_wp2_with fail
        refine hK.out _ _ ?hSb6 ?restb6
        case hSb6 => (try dsimp only); (first | (with_reducible exact QS.out _ N2) | (with_reducible exact QS.out _ N3) | (with_reducible exact QS.out _ N4) | (with_reducible exact KK.out) | (with_reducible exact off3 _ _ _ HNG.out KK.out))
        clear hK K hHeld
        intro hHeld
        try simp only [Act.put, List.setIfInBounds_toArray, List.set_cons_zero, List.set_cons_succ]
        refine wpAnyH_take (i := 6) (oi := { dst := some 10, op := Go.Op.build 63 #[(0, Go.Operand.tmp 6), (1, Go.Operand.tmp 9)], type := 63, pos := "bytes.go:127", after := #[{ on := 2, ground := Go.Ground.data }, { on := 5, ground := Go.Ground.data }], guard := none }) (v := ?vb7) rfl (by kernel_rfl) (by kernel_rfl) (by kernel_rfl) (fun _ _ _ h => h) (Or.inl ⟨by rfl, ?hyb7⟩) (by assumption) ?restb7
        case hyb7 => intro w hSw; (try dsimp only at hSw); go_simp; try with_reducible rfl
        try simp only [Act.put, List.setIfInBounds_toArray, List.set_cons_zero, List.set_cons_succ]
        refine wpAnyH_ready (rs := [7]) (by kernel_rfl) (by simp) ?_
        refine AllReadyH.cons (o := { dst := some 3, op := Go.Op.alloc 63, type := 0, pos := "bytes.go:127", after := #[], guard := none }) rfl (fun K hK => ?_) (AllReadyH.nil)
        go_simp
        have NA : Only pr X.drew (w4.alloc (.cells #[.string ⟨#[]⟩, .string ⟨#[]⟩, .bool false] 63)) := N4.trans (only_alloc pr w4 (.cells #[.string ⟨#[]⟩, .string ⟨#[]⟩, .bool false] 63)); have RA : IsR pr (w4.alloc (.cells #[.string ⟨#[]⟩, .string ⟨#[]⟩, .bool false] 63)) v l _ _ := R4.below (balloc w4 (.cells #[.string ⟨#[]⟩, .string ⟨#[]⟩, .bool false] 63)); have GA : Hid ((w4.alloc (.cells #[.string ⟨#[]⟩, .string ⟨#[]⟩, .bool false] 63)).heap[w4.heap.size]? = some (.cells #[.string ⟨#[]⟩, .string ⟨#[]⟩, .bool false] 63)) := heap_alloc_new w4 (.cells #[.string ⟨#[]⟩, .string ⟨#[]⟩, .bool false] 63); have hge : X.heap.size ≤ w4.heap.size := N4.size
        try go_wp2_with fail
        refine hK.out _ _ ?hSb8 ?restb8
        case hSb8 => (try dsimp only); (first | (with_reducible exact QS.out _ N2) | (with_reducible exact QS.out _ N3) | (with_reducible exact QS.out _ N4) | (with_reducible exact QS.out _ NA) | (with_reducible exact KK.out) | (with_reducible exact off3 _ _ _ HNG.out KK.out))
        clear hK K hHeld
        intro hHeld
        try simp only [Act.put, List.setIfInBounds_toArray, List.set_cons_zero, List.set_cons_succ]
        refine wpAnyH_ready (rs := [8]) (by kernel_rfl) (by simp) ?_
        refine AllReadyH.cons (o := { dst := none, op := Go.Op.store 63 (Go.Operand.tmp 3) (Go.Operand.tmp 10), type := 0, pos := "bytes.go:127", after := #[{ on := 7, ground := Go.Ground.data }, { on := 6, ground := Go.Ground.data }, { on := 5, ground := Go.Ground.chain }, { on := 0, ground := Go.Ground.phase }, { on := 1, ground := Go.Ground.phase }, { on := 2, ground := Go.Ground.phase }, { on := 3, ground := Go.Ground.phase }, { on := 4, ground := Go.Ground.phase }, { on := 5, ground := Go.Ground.phase }, { on := 6, ground := Go.Ground.phase }, { on := 7, ground := Go.Ground.phase }], guard := none }) rfl (fun K hK => ?_) (AllReadyH.nil)
        go_simp
        have KK := D.hidIt (QS.out _ (N4.trans (only_alloc pr w4 (.cells #[.string nm, .string ds, .bool false] 63))))
        try go_wp2_with fail
        refine hK.out _ _ ?hSb9 ?restb9
        case hSb9 => (try dsimp only); (first | (with_reducible exact QS.out _ N2) | (with_reducible exact QS.out _ N3) | (with_reducible exact QS.out _ N4) | (with_reducible exact QS.out _ NA) | (with_reducible exact KK.out) | (with_reducible exact off3 _ _ _ HNG.out KK.out))
        clear hK K hHeld
        intro hHeld
        try simp only [Act.put, List.setIfInBounds_toArray, List.set_cons_zero, List.set_cons_succ]
        refine wpAnyH_done (by kernel_rfl) ?_ _
        refine NoPanic.normal ?_
        go_wp2
        go_meet
        exact ⟨w4.heap.size, rfl, hge, heap_alloc_new w4 (.cells #[.string nm, .string ds, .bool false] 63), R4.below (balloc w4 (.cells #[.string nm, .string ds, .bool false] 63)), (Only.drewN pr X 1).trans (N4.trans (only_alloc pr w4 (.cells #[.string nm, .string ds, .bool false] 63)))⟩
      · go_simp
        have NA : Only pr X.drew (w3.alloc (.cells #[.string ⟨#[]⟩, .string ⟨#[]⟩, .bool false] 63)) := N3.trans (only_alloc pr w3 (.cells #[.string ⟨#[]⟩, .string ⟨#[]⟩, .bool false] 63)); have RA : IsR pr (w3.alloc (.cells #[.string ⟨#[]⟩, .string ⟨#[]⟩, .bool false] 63)) v l _ _ := R3.below (balloc w3 (.cells #[.string ⟨#[]⟩, .string ⟨#[]⟩, .bool false] 63)); have GA : Hid ((w3.alloc (.cells #[.string ⟨#[]⟩, .string ⟨#[]⟩, .bool false] 63)).heap[w3.heap.size]? = some (.cells #[.string ⟨#[]⟩, .string ⟨#[]⟩, .bool false] 63)) := heap_alloc_new w3 (.cells #[.string ⟨#[]⟩, .string ⟨#[]⟩, .bool false] 63); have hge : X.heap.size ≤ w3.heap.size := N3.size
        try go_wp2_with fail
        refine hK.out _ _ ?hSb10 ?restb10
        case hSb10 => (try dsimp only); (first | (with_reducible exact QS.out _ N2) | (with_reducible exact QS.out _ N3) | (with_reducible exact QS.out _ NA) | (with_reducible exact KK.out) | (with_reducible exact off3 _ _ _ HNG.out KK.out))
        clear hK K hHeld
        intro hHeld
        try simp only [Act.put, List.setIfInBounds_toArray, List.set_cons_zero, List.set_cons_succ]
        refine wpAnyH_ready (rs := [5]) (by kernel_rfl) (by simp) ?_
        refine AllReadyH.cons (o := { dst := some 9, op := Go.Op.call { callee := Go.Callee.value (Go.Operand.func 68), args := #[Go.Operand.tmp 8], argTypes := #[76] }, type := 9, pos := "bytes.go:127", after := #[{ on := 4, ground := Go.Ground.data }, { on := 2, ground := Go.Ground.chain }], guard := none }) rfl (fun K hK => ?_) (AllReadyH.nil)
        go_simp
        refine (g2 _ RA).out.mono ?_; rintro e w4 ⟨rfl, R4, on4⟩; have N4 := NA.trans on4; have G4 : Hid (w4.heap[w3.heap.size]? = some (.cells #[.string ⟨#[]⟩, .string ⟨#[]⟩, .bool false] 63)) := (on4.block _ (by exact (Array.getElem?_eq_some_iff.1 GA.out).1) (by have := R3.lt; have hz : w3.heap.size = w3.heap.size := rfl; omega)).trans GA.out
        try go_wp2_with fail
        refine hK.out _ _ ?hSb11 ?restb11
        case hSb11 => (try dsimp only); (first | (with_reducible exact QS.out _ N2) | (with_reducible exact QS.out _ N3) | (with_reducible exact QS.out _ NA) | (with_reducible exact QS.out _ N4) | (with_reducible exact KK.out) | (with_reducible exact off3 _ _ _ HNG.out KK.out))
        clear hK K hHeld
        intro hHeld
        try simp only [Act.put, List.setIfInBounds_toArray, List.set_cons_zero, List.set_cons_succ]
        refine wpAnyH_take (i := 6) (oi := { dst := some 10, op := Go.Op.build 63 #[(0, Go.Operand.tmp 6), (1, Go.Operand.tmp 9)], type := 63, pos := "bytes.go:127", after := #[{ on := 2, ground := Go.Ground.data }, { on := 5, ground := Go.Ground.data }], guard := none }) (v := ?vb12) rfl (by kernel_rfl) (by kernel_rfl) (by kernel_rfl) (fun _ _ _ h => h) (Or.inl ⟨by rfl, ?hyb12⟩) (by assumption) ?restb12
        case hyb12 => intro w hSw; (try dsimp only at hSw); go_simp; try with_reducible rfl
        try simp only [Act.put, List.setIfInBounds_toArray, List.set_cons_zero, List.set_cons_succ]
        refine wpAnyH_ready (rs := [8]) (by kernel_rfl) (by simp) ?_
        refine AllReadyH.cons (o := { dst := none, op := Go.Op.store 63 (Go.Operand.tmp 3) (Go.Operand.tmp 10), type := 0, pos := "bytes.go:127", after := #[{ on := 7, ground := Go.Ground.data }, { on := 6, ground := Go.Ground.data }, { on := 5, ground := Go.Ground.chain }, { on := 0, ground := Go.Ground.phase }, { on := 1, ground := Go.Ground.phase }, { on := 2, ground := Go.Ground.phase }, { on := 3, ground := Go.Ground.phase }, { on := 4, ground := Go.Ground.phase }, { on := 5, ground := Go.Ground.phase }, { on := 6, ground := Go.Ground.phase }, { on := 7, ground := Go.Ground.phase }], guard := none }) rfl (fun K hK => ?_) (AllReadyH.nil)
        go_simp
        obtain ⟨f0, f1, f2, ff⟩ := row3 G4.out; have KK := D.hidIt (QS.out _ N4); have HNG : Hid (w.heap.size ≠ w3.heap.size) := by (show _ ≠ _; omega)
        try go_wp2_with fail
        refine hK.out _ _ ?hSb13 ?restb13
        case hSb13 => (try dsimp only); (first | (with_reducible exact QS.out _ N2) | (with_reducible exact QS.out _ N3) | (with_reducible exact QS.out _ NA) | (with_reducible exact QS.out _ N4) | (with_reducible exact KK.out) | (with_reducible exact off3 _ _ _ HNG.out KK.out))
        clear hK K hHeld
        intro hHeld
        try simp only [Act.put, List.setIfInBounds_toArray, List.set_cons_zero, List.set_cons_succ]
        refine wpAnyH_done (by kernel_rfl) ?_ _
        refine NoPanic.normal ?_
        have FIN := D.hidIt (put3R (g := w3.heap.size) (.string nm) (.string ds) (.bool false) RX.out ((Only.drewN pr X 1).trans N4) R4 hge)
        have H5 := D.hidIt (set3T (.string nm) (.string ds) (.bool false) G4.out)
        clear f0 f1 f2 ff
        go_wp2
        go_meet
        exact ⟨w3.heap.size, rfl, hge, H5.out, FIN.out.1, FIN.out.2⟩
        refine hK.out _ _ ?hSb13z ?restb13z
        case hSb13z => (try dsimp only); (first | (with_reducible exact QS.out _ N2) | (with_reducible exact QS.out _ N3) | (with_reducible exact QS.out _ NA) | (with_reducible exact QS.out _ N4) | (with_reducible exact KK.out) | (with_reducible exact off3 _ _ _ HNG.out KK.out))
        clear hK K hHeld
        intro hHeld
        try simp only [Act.put, List.setIfInBounds_toArray, List.set_cons_zero, List.set_cons_succ]
        refine wpAnyH_done (by kernel_rfl) ?_ _
        refine NoPanic.normal ?_
        have FIN := D.hidIt (put3R (g := w3.heap.size) (.string nm) (.string ds) (.bool false) RX.out ((Only.drewN pr X 1).trans N4) R4 hge)
        have H5 := D.hidIt (set3T (.string nm) (.string ds) (.bool false) G4.out)
        clear f0 f1 f2 ff
        go_wp2
        go_meet
        exact ⟨w3.heap.size, rfl, hge, H5.out, FIN.out.1, FIN.out.2⟩
    · go_simp
      have NA : Only pr X.drew (X.alloc (.cells #[.string ⟨#[]⟩, .string ⟨#[]⟩, .bool false] 63)).drew := N2.trans (only_alloc pr X.drew (.cells #[.string ⟨#[]⟩, .string ⟨#[]⟩, .bool false] 63)); have RA : IsR pr (X.alloc (.cells #[.string ⟨#[]⟩, .string ⟨#[]⟩, .bool false] 63)).drew v l _ _ := R2.below (balloc X.drew (.cells #[.string ⟨#[]⟩, .string ⟨#[]⟩, .bool false] 63)); have GA : Hid ((X.alloc (.cells #[.string ⟨#[]⟩, .string ⟨#[]⟩, .bool false] 63)).drew.heap[X.heap.size]? = some (.cells #[.string ⟨#[]⟩, .string ⟨#[]⟩, .bool false] 63)) := heap_alloc_new X.drew (.cells #[.string ⟨#[]⟩, .string ⟨#[]⟩, .bool false] 63); have hge : X.heap.size ≤ X.heap.size := N2.size
      try go_wp2_with fail
      refine hK.out _ _ ?hSb14 ?restb14
      case hSb14 => (try dsimp only); (first | (with_reducible exact QS.out _ N2) | (with_reducible exact QS.out _ NA) | (with_reducible exact KK.out) | (with_reducible exact off3 _ _ _ HNG.out KK.out))
      clear hK K hHeld
      intro hHeld
      try simp only [Act.put, List.setIfInBounds_toArray, List.set_cons_zero, List.set_cons_succ]
      refine wpAnyH_ready (rs := [2]) (by kernel_rfl) (by simp) ?_
      refine AllReadyH.cons (o := { dst := some 6, op := Go.Op.call { callee := Go.Callee.value (Go.Operand.func 68), args := #[Go.Operand.tmp 5], argTypes := #[76] }, type := 9, pos := "bytes.go:127", after := #[{ on := 1, ground := Go.Ground.data }], guard := none }) rfl (fun K hK => ?_) (AllReadyH.nil)
      go_simp
      refine (g1 _ RA).out.mono ?_; rintro e w3 ⟨rfl, R3, on3⟩; have N3 := NA.trans on3; have G3 : Hid (w3.heap[X.heap.size]? = some (.cells #[.string ⟨#[]⟩, .string ⟨#[]⟩, .bool false] 63)) := (on3.block _ (by exact (Array.getElem?_eq_some_iff.1 GA.out).1) (by have := R2.lt; have hz : X.drew.heap.size = X.heap.size := rfl; omega)).trans GA.out
      try go_wp2_with fail
      refine hK.out _ _ ?hSb15 ?restb15
      case hSb15 => (try dsimp only); (first | (with_reducible exact QS.out _ N2) | (with_reducible exact QS.out _ NA) | (with_reducible exact QS.out _ N3) | (with_reducible exact KK.out) | (with_reducible exact off3 _ _ _ HNG.out KK.out))
      clear hK K hHeld
      intro hHeld
      try simp only [Act.put, List.setIfInBounds_toArray, List.set_cons_zero, List.set_cons_succ]
      refine wpAnyH_ready (rs := [5]) (by kernel_rfl) (by simp) ?_
      refine AllReadyH.cons (o := { dst := some 9, op := Go.Op.call { callee := Go.Callee.value (Go.Operand.func 68), args := #[Go.Operand.tmp 8], argTypes := #[76] }, type := 9, pos := "bytes.go:127", after := #[{ on := 4, ground := Go.Ground.data }, { on := 2, ground := Go.Ground.chain }], guard := none }) rfl (fun K hK => ?_) (AllReadyH.nil)
      go_simp
      refine (g2 _ R3).out.mono ?_; rintro e w4 ⟨rfl, R4, on4⟩; have N4 := N3.trans on4; have G4 : Hid (w4.heap[X.heap.size]? = some (.cells #[.string ⟨#[]⟩, .string ⟨#[]⟩, .bool false] 63)) := (on4.block _ (by exact (Array.getElem?_eq_some_iff.1 G3.out).1) (by have := R2.lt; have hz : X.drew.heap.size = X.heap.size := rfl; omega)).trans G3.out
      try go_wp2_with fail
      refine hK.out _ _ ?hSb16 ?restb16
      case hSb16 => (try dsimp only); (first | (with_reducible exact QS.out _ N2) | (with_reducible exact QS.out _ NA) | (with_reducible exact QS.out _ N3) | (with_reducible exact QS.out _ N4) | (with_reducible exact KK.out) | (with_reducible exact off3 _ _ _ HNG.out KK.out))
      clear hK K hHeld
      intro hHeld
      try simp only [Act.put, List.setIfInBounds_toArray, List.set_cons_zero, List.set_cons_succ]
      refine wpAnyH_take (i := 6) (oi := { dst := some 10, op := Go.Op.build 63 #[(0, Go.Operand.tmp 6), (1, Go.Operand.tmp 9)], type := 63, pos := "bytes.go:127", after := #[{ on := 2, ground := Go.Ground.data }, { on := 5, ground := Go.Ground.data }], guard := none }) (v := ?vb17) rfl (by kernel_rfl) (by kernel_rfl) (by kernel_rfl) (fun _ _ _ h => h) (Or.inl ⟨by rfl, ?hyb17⟩) (by assumption) ?restb17
      case hyb17 => intro w hSw; (try dsimp only at hSw); go_simp; try with_reducible rfl
      try simp only [Act.put, List.setIfInBounds_toArray, List.set_cons_zero, List.set_cons_succ]
      refine wpAnyH_ready (rs := [8]) (by kernel_rfl) (by simp) ?_
      refine AllReadyH.cons (o := { dst := none, op := Go.Op.store 63 (Go.Operand.tmp 3) (Go.Operand.tmp 10), type := 0, pos := "bytes.go:127", after := #[{ on := 7, ground := Go.Ground.data }, { on := 6, ground := Go.Ground.data }, { on := 5, ground := Go.Ground.chain }, { on := 0, ground := Go.Ground.phase }, { on := 1, ground := Go.Ground.phase }, { on := 2, ground := Go.Ground.phase }, { on := 3, ground := Go.Ground.phase }, { on := 4, ground := Go.Ground.phase }, { on := 5, ground := Go.Ground.phase }, { on := 6, ground := Go.Ground.phase }, { on := 7, ground := Go.Ground.phase }], guard := none }) rfl (fun K hK => ?_) (AllReadyH.nil)
      go_simp
      obtain ⟨f0, f1, f2, ff⟩ := row3 G4.out; have KK := D.hidIt (QS.out _ N4); have HNG : Hid (w.heap.size ≠ X.heap.size) := by (show _ ≠ _; omega)
      try go_wp2_with fail
      refine hK.out _ _ ?hSb18 ?restb18
      case hSb18 => (try dsimp only); (first | (with_reducible exact QS.out _ N2) | (with_reducible exact QS.out _ NA) | (with_reducible exact QS.out _ N3) | (with_reducible exact QS.out _ N4) | (with_reducible exact KK.out) | (with_reducible exact off3 _ _ _ HNG.out KK.out))
      clear hK K hHeld
      intro hHeld
      try simp only [Act.put, List.setIfInBounds_toArray, List.set_cons_zero, List.set_cons_succ]
      refine wpAnyH_done (by kernel_rfl) ?_ _
      refine NoPanic.normal ?_
      have FIN := D.hidIt (put3R (g := X.heap.size) (.string nm) (.string ds) (.bool false) RX.out ((Only.drewN pr X 1).trans N4) R4 hge)
      have H5 := D.hidIt (set3T (.string nm) (.string ds) (.bool false) G4.out)
      clear f0 f1 f2 ff
      go_wp2
      go_meet
      exact ⟨X.heap.size, rfl, hge, H5.out, FIN.out.1, FIN.out.2⟩
      refine hK.out _ _ ?hSb18z ?restb18z
      case hSb18z => (try dsimp only); (first | (with_reducible exact QS.out _ N2) | (with_reducible exact QS.out _ NA) | (with_reducible exact QS.out _ N3) | (with_reducible exact QS.out _ N4) | (with_reducible exact KK.out) | (with_reducible exact off3 _ _ _ HNG.out KK.out))
      clear hK K hHeld
      intro hHeld
      try simp only [Act.put, List.setIfInBounds_toArray, List.set_cons_zero, List.set_cons_succ]
      refine wpAnyH_done (by kernel_rfl) ?_ _
      refine NoPanic.normal ?_
      have FIN := D.hidIt (put3R (g := X.heap.size) (.string nm) (.string ds) (.bool false) RX.out ((Only.drewN pr X 1).trans N4) R4 hge)
      have H5 := D.hidIt (set3T (.string nm) (.string ds) (.bool false) G4.out)
      clear f0 f1 f2 ff
      go_wp2
      go_meet
      exact ⟨X.heap.size, rfl, hge, H5.out, FIN.out.1, FIN.out.2⟩
  case rest =>
    obtain ⟨g, rfl, hg, G3, R3, O3⟩ := hcut
    clear g1 g2 QS QH R2 HNE N2 RX
    have hgp : g ≠ pr := by omega
    have gw0 : g ≠ w.heap.size := by omega
    have gw1 : w.heap.size + 1 ≠ g := by omega
    have bx1 := (O3.block _ (Array.getElem?_eq_some_iff.1 BX1.out).1 (by omega)).trans BX1.out
    have bx2 := (O3.block _ (Array.getElem?_eq_some_iff.1 BX2.out).1 (by omega)).trans BX2.out
    have c1 := cell_row bx1 0 rfl
    have W3 := D.hidIt O3
    have B3 := D.hidIt bx2
    have GG := D.hidIt G3
    have R3' := D.hidIt R3
    clear O3 bx1 bx2 G3 R3 BX1 BX2
    go_wp2_with fail
    refine (g3 _ R3'.out).out.mono ?_
    rintro e w4 ⟨rfl, R4, on4⟩
    have G4 := D.hidIt ((on4.block _ (Array.getElem?_eq_some_iff.1 GG.out).1 hgp).trans GG.out)
    have B4 := D.hidIt ((on4.block _ (Array.getElem?_eq_some_iff.1 B3.out).1 (by omega)).trans B3.out)
    have O4 := D.hidIt (O0.out.trans (W3.out.trans on4))
    have R4' := D.hidIt R4
    clear R4 on4 GG B3 W3 R3' g3 c1
    have fin : ∀ b : Bool, (fn % 2 = 1 ↔ b = true) → Hid ((w4.setCell ⟨g, 2, none⟩ (.bool b)).heap[g]? = some (.cells #[.string nm, .string ds, .bool b] 63)) ∧ Hid ((w4.setCell ⟨g, 2, none⟩ (.bool b)).heap[w.heap.size + 1]? = some (.cells #[.string ⟨#[]⟩, .string ⟨#[]⟩, .bool false] 63)) ∧ Hid (IsR pr (w4.setCell ⟨g, 2, none⟩ (.bool b)) v l a3 y3 ∧ Only pr w (w4.setCell ⟨g, 2, none⟩ (.bool b))) := fun b _ =>
      ⟨gset_row (j := 2) (u := .bool b) G4.out, (Below.heap_setCell _ _ _ _ gw1).trans B4.out, H00.out.put O4.out R4'.out (by omega), O4.out.put (by omega)⟩
    obtain ⟨e0, e1, e2, ef⟩ := row3 G4.out
    have ef2 := ef 2
    clear ef
    rcases HM.out with hm | hm
    · have hb : bits .and .i64 fn 1 = 0 := by rw [HAND.out, hm]
      obtain ⟨k1, k2, k3⟩ := fin false (by simp [hm])
      obtain ⟨m0, m1, m2, mf⟩ := row3 k1.out
      obtain ⟨n0, n1, n2, nf⟩ := row3 k2.out
      have FIN := D.hidIt (put3R (g := w.heap.size + 1) (.string nm) (.string ds) (.bool false) H00.out k3.out.2 k3.out.1 (by omega))
      have H5 := D.hidIt (set3T (.string nm) (.string ds) (.bool false) k2.out)
      have HD : Hid (decide (fn % 2 = 1) = false) := by show _ = _; simp [hm]
      clear fin mf k1 k2 k3 hm
      go_wp2
      refine bodyPost_ret (results_cell_row rfl _ _ (w.heap.size + 1) 63 _ (0, 0) _ rfl H5.out Tryz.underlying63 rfl (by kernel_rfl)) rfl ?_
      exact ⟨⟨[.string nm, .string ds, .bool false], rfl, by show [_, _, _] = _; rw [HD.out], HS1.out, HS2.out⟩, FIN.out.1, FIN.out.2⟩
    · have hb : bits .and .i64 fn 1 = 1 := by rw [HAND.out, hm]
      obtain ⟨k1, k2, k3⟩ := fin true (by simp [hm])
      obtain ⟨m0, m1, m2, mf⟩ := row3 k1.out
      obtain ⟨n0, n1, n2, nf⟩ := row3 k2.out
      have FIN := D.hidIt (put3R (g := w.heap.size + 1) (.string nm) (.string ds) (.bool true) H00.out k3.out.2 k3.out.1 (by omega))
      have H5 := D.hidIt (set3T (.string nm) (.string ds) (.bool true) k2.out)
      have HD : Hid (decide (fn % 2 = 1) = true) := by show _ = _; simp [hm]
      clear fin mf k1 k2 k3 hm
      go_wp2
      refine bodyPost_ret (results_cell_row rfl _ _ (w.heap.size + 1) 63 _ (0, 0) _ rfl H5.out Tryz.underlying63 rfl (by kernel_rfl)) rfl ?_
      exact ⟨⟨[.string nm, .string ds, .bool true], rfl, by show [_, _, _] = _; rw [HD.out], HS1.out, HS2.out⟩, FIN.out.1, FIN.out.2⟩
end Go.Proofs.YthagaldpopnoeaaGreatDoor
