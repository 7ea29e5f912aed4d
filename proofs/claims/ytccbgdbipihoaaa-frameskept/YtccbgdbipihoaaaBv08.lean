/- Texts FRg FRh QBT KSm FRn BKk. -/
import Derived.Test.YtccbgdbipihoaaaBv07
import Derived.Deep.CutRange
import Derived.Test.YtccbgdbipihoaaaBv05
import Derived.BigQuiet
import Derived.Deep.QuietTactic
import Derived.Test.YtccbgdbipihoaaaBv04
namespace Go.Proofs.Ytccbgdbipihoaaa.Fr
open Go.RowKit Q Q.D K

theorem Blk.cells {b : Nat} {T : TypeId} : ∀ (xs : List Value) (o : Nat) {W : World} {cur : Array Value}, Blk W b cur T → ∃ cur', Blk (W.setCells b o xs) b cur' T ∧ cur'.size = cur.size ∧ ∀ j, cur'[j]? = if o ≤ j ∧ j < o + xs.length ∧ j < cur.size then xs[j - o]? else cur[j]?
  | [], o, W, cur, h => ⟨cur, h, rfl, fun j => by rw [if_neg (by simp; omega)]⟩
  | v :: xs, o, W, cur, h => by
    obtain ⟨cur', h1, h2, h3⟩ := Blk.cells xs (o + 1) (h.set o v)
    refine ⟨cur', h1, by rw [h2]; simp, fun j => ?_⟩
    rw [h3]
    simp only [Array.size_setIfInBounds, List.length_cons]
    by_cases hj : o + 1 ≤ j ∧ j < o + 1 + xs.length ∧ j < cur.size
    · rw [if_pos hj, if_pos (by omega), show j - o = (j - (o + 1)) + 1 by omega, List.getElem?_cons_succ]
    · rw [if_neg hj, Array.getElem?_setIfInBounds]
      by_cases e : o = j
      · subst e
        rw [if_pos rfl]
        by_cases hl : o < cur.size
        · rw [if_pos hl, if_pos (by omega)]; simp
        · rw [if_neg hl, if_neg (by omega), Array.getElem?_eq_none (by omega)]
      · rw [if_neg e, if_neg (by omega)]
theorem below_cells {B : Nat} {a : World} (b : Nat) (hb : B ≤ b) : ∀ (vs : List Value) (o : Nat) {w : World}, Below B a w → Below B a (w.setCells b o vs)
  | [], _, _, h => h
  | v :: vs, o, _, h => below_cells b hb vs (o + 1) (below_set h hb o v)
theorem OwnT.of_blk {W : World} {B b cap : Nat} {cur : Array Value} {l : List ByteArray} (hb : Blk W b cur 9) (hB : B ≤ b) (h1 : l.length ≤ cap) (h2 : cap ≤ maxLen) (h3 : cur.size = cap) (h4 : ∀ (j : Nat) (s : ByteArray), l[j]? = some s → cur[j]? = some (Value.string s)) : OwnT W B (.slice (some ⟨b, 0, none⟩) l.length cap) l := by
  refine ⟨by simp [tx], .inr ⟨b, cap, cur, rfl, hB, hb, h1, h2, by omega, ?_⟩⟩
  refine List.ext_getElem? (fun j => ?_)
  rw [Nat.mul_one, List.getElem?_take]
  by_cases hj : j < l.length
  · rw [if_pos hj]
    obtain ⟨s, hs⟩ : ∃ s, l[j]? = some s := ⟨_, List.getElem?_eq_getElem hj⟩
    have := h4 j s hs
    rw [← Array.getElem?_toList] at this
    rw [this]
    simp [tx, hs]
  · rw [if_neg hj, List.getElem?_eq_none (by simp [tx]; omega)]
theorem one_tx (l : List ByteArray) : ∀ v ∈ tx l, v.oneCell' = true := by
  intro v hv
  simp only [tx, List.mem_map] at hv
  obtain ⟨s, _, rfl⟩ := hv
  rfl
set_option maxRecDepth 8000 in
set_option maxHeartbeats 1000000 in
theorem insert0 (w : World) (B : Nat) (v : Value) (l : List ByteArray) (y : ByteArray) (h : OwnT w B v l) (hB : B ≤ w.heap.size) (hl : l.length ≤ 1000000) :
    Calls Try.prog 20 #[v, .int .i64 0, .slice (some ⟨w.heap.size, 0, none⟩) 1 1] (w.alloc (.cells #[.string y] 9)) fun e w' => ∃ v', e = .returned v' ∧ OwnT w' B v' (y :: l) ∧ Below B w w' := by
  have hA : Below B w (w.alloc (.cells #[.string y] 9)) := (Below.refl _ _).alloc hB _
  have V := Blk.new w #[.string y] 9
  have hvs : ∀ j u, ([Value.string y] : List Value)[j]? = some u → (w.alloc (.cells #[.string y] 9)).cell? ⟨w.heap.size, 0 + j, none⟩ = some u := by
    intro j u hj
    match j, hj with
    | 0, hj => simp at hj; subst hj; rw [V.cell]; rfl
    | j + 1, hj => simp at hj
  have h1v : ∀ u ∈ ([Value.string y] : List Value), u.oneCell' = true := by intro u hu; simp at hu; subst hu; rfl
  rcases h.2 with ⟨rfl, e0⟩ | ⟨g, cap, cur, e, hBg, hg, h1, h2, h3, h4⟩
  · obtain rfl : l = [] := List.length_eq_zero_iff.1 e0
    refine (Any2.slices_Insert_string_end_grow Try.insS none 0 0 w.heap.size 0 1 1 [] [.string y] _ (by omega) (by omega) (by omega) (by omega) rfl rfl (fun _ => rfl) (fun a ha => by cases ha) hvs h1v).mono ?_
    rintro e w' ⟨rfl, rfl⟩
    have hG := grownCap_ge (w.alloc (.cells #[.string y] 9)) (0 + 1) 0 9
    have hG2 := grownCap_le_maxLen (w.alloc (.cells #[.string y] 9)) (0 + 1) 0 9 (by unfold maxLen; omega)
    refine ⟨_, rfl, ?_, ((hA).drew.alloc (by simp; omega) _)⟩
    refine OwnT.of_blk (l := [y]) (Blk.new (w.alloc (.cells #[.string y] 9)).drew _ _) (by simp; omega) hG hG2 ?_ ?_
    · simp only [Array.size_append, zc_len]
      show 1 + _ = _
      exact Nat.add_sub_cancel' hG
    · intro j s hs
      match j, hs with
      | 0, hs => simp at hs; subst hs; rw [Array.getElem?_append_left (by simp)]; rfl
      | j + 1, hs => simp at hs
  · subst e
    have hglt := (Array.getElem?_eq_some_iff.1 hg).1
    have hG0 : Blk (w.alloc (.cells #[.string y] 9)) g cur 9 := Blk.alloc (show Blk w g cur 9 from hg) _
    have hcs : ∀ j u, (tx l)[j]? = some u → (w.alloc (.cells #[.string y] 9)).cell? ⟨g, 0 + j, none⟩ = some u := by
      intro j u hj
      have := h.cells (g := g) rfl j u hj
      rw [Addr.add_lit] at this
      exact cell_later (Below.alloc (Below.refl _ w) (Nat.le_refl _) _) this
    have hcur : ∀ (j : Nat) (s : ByteArray), l[j]? = some s → cur[j]? = some (Value.string s) := by
      intro j s hs
      have := h.cells (g := g) rfl j (.string s) (by simp [tx, hs])
      rw [Addr.add_lit, Nat.zero_add, Blk.cell (show Blk w g cur 9 from hg)] at this
      exact this
    have hsz : cur.size = cap := by omega
    by_cases hroom : l.length + 1 ≤ cap
    · by_cases hl0 : l.length = 0
      · obtain rfl : l = [] := List.length_eq_zero_iff.1 hl0
        refine (Any2.slices_Insert_string_end_room Try.insS g 0 0 cap w.heap.size 0 1 1 [.string y] _ (by omega) hroom (by unfold maxLen at h2; omega) rfl (fun j hj => ?_) (fun j hj => hG0.frozen _) hvs h1v).mono ?_
        · rw [hG0.cell, Array.getElem?_eq_getElem (by simp at hroom; omega)]; rfl
        rintro e w' ⟨rfl, rfl⟩
        obtain ⟨cur', k1, k2, k3⟩ := Blk.cells [.string y] (0 + 0) hG0
        refine ⟨_, rfl, OwnT.of_blk (l := [y]) k1 hBg hroom h2 (by omega) (fun j s hs => ?_), below_cells g hBg _ _ hA⟩
        match j, hs with
        | 0, hs => simp at hs; subst hs; rw [k3, if_pos (by simp at hroom ⊢; omega)]; rfl
        | j + 1, hs => simp at hs
      · refine (Any2.slices_Insert_string_shift Try.insS g 0 l.length cap 0 w.heap.size 0 1 1 (tx l) [.string y] _ (by omega) (by omega) hroom (by unfold maxLen at h2; omega) (by omega) (tx_len l) rfl hcs (fun j hj => ?_) (fun j hj => hG0.frozen _) hvs (one_tx l) h1v 9 9 1 cur.size ?_ ?_ (by omega) (V.frozen _) (V.frozen _)).mono ?_
        · rw [hG0.cell, Array.getElem?_eq_getElem (by omega)]; rfl
        · simp only [World.shape?, show (w.alloc (.cells #[.string y] 9)).heap[w.heap.size]? = _ from V]; rfl
        · simp only [World.shape?, show (w.alloc (.cells #[.string y] 9)).heap[g]? = _ from hG0]
        rintro e w' ⟨rfl, rfl⟩
        have hGd : Blk (w.alloc (.cells #[.string y] 9)).drew g cur 9 := hG0
        obtain ⟨cur1, k1, k2, k3⟩ := Blk.cells ((tx l).drop 0) (0 + (0 + 1)) hGd
        obtain ⟨cur2, k4, k5, k6⟩ := Blk.cells [.string y] (0 + 0) k1
        refine ⟨_, rfl, OwnT.of_blk (l := y :: l) k4 hBg (by simpa using hroom) h2 (by omega) (fun j s hs => ?_), below_cells g hBg _ _ (below_cells g hBg _ _ hA.drew)⟩
        match j, hs with
        | 0, hs => simp at hs; subst hs; rw [k6, if_pos (by simp; omega)]; rfl
        | j + 1, hs =>
          have hj := (List.getElem?_eq_some_iff.1 hs).1
          simp at hj hs
          rw [k6, if_neg (by simp), k3, if_pos (by simp [tx]; omega)]
          simp [tx, hs]
    · have hcl : cap = l.length := by omega
      have hbig : (l.length + 1) * 16 ≤ 140737488355328 := by omega
      have hG := grownCap_ge (w.alloc (.cells #[.string y] 9)) (l.length + 1) cap 9
      have hG2 := grownCap_le_maxLen (w.alloc (.cells #[.string y] 9)) (l.length + 1) cap 9 (by unfold maxLen; omega)
      by_cases hl0 : l.length = 0
      · obtain rfl : l = [] := List.length_eq_zero_iff.1 hl0
        refine (Any2.slices_Insert_string_end_grow Try.insS (some ⟨g, 0, none⟩) 0 cap w.heap.size 0 1 1 [] [.string y] _ (by omega) (by omega) (by omega) (by omega) rfl rfl (fun e => by cases e) (fun a ha j u hj => by simp at hj) hvs h1v).mono ?_
        rintro e w' ⟨rfl, rfl⟩
        refine ⟨_, rfl, ?_, ((hA).drew.alloc (by simp; omega) _)⟩
        refine OwnT.of_blk (l := [y]) (Blk.new (w.alloc (.cells #[.string y] 9)).drew _ _) (by simp; omega) hG hG2 ?_ ?_
        · simp only [Array.size_append, zc_len]
          show 1 + _ = _
          exact Nat.add_sub_cancel' hG
        · intro j s hs
          match j, hs with
          | 0, hs => simp at hs; subst hs; rw [Array.getElem?_append_left (by simp)]; rfl
          | j + 1, hs => simp at hs
      · refine (Any2.slices_Insert_string_grow Try.insS g 0 l.length cap 0 w.heap.size 0 1 1 (tx l) [.string y] _ (by omega) (by omega) (by omega) (by omega) hbig (tx_len l) rfl hcs hvs (one_tx l) h1v).mono ?_
        rintro e w' ⟨rfl, rfl⟩
        generalize hGG : grownCap (w.alloc (.cells #[.string y] 9)) (l.length + 1) cap (Try.insS_ren.t 9) = G
        have hG' : l.length + 1 ≤ G := by rw [← hGG]; exact hG
        have hG2' : G ≤ maxLen := by rw [← hGG]; exact hG2
        have N0 := Blk.new (w.alloc (.cells #[.string y] 9)) (((tx l).take 0).toArray ++ Builtin.zeroCells (Value.string ⟨#[]⟩).cells (l.length + 1 - 0) ++ Builtin.zeroCells (Value.string ⟨#[]⟩).cells (G - (l.length + 1))) 9
        have N0d : Blk ((w.alloc (.cells #[.string y] 9)).alloc (.cells (((tx l).take 0).toArray ++ Builtin.zeroCells (Value.string ⟨#[]⟩).cells (l.length + 1 - 0) ++ Builtin.zeroCells (Value.string ⟨#[]⟩).cells (G - (l.length + 1))) 9)).drew (w.alloc (.cells #[.string y] 9)).heap.size _ 9 := N0
        obtain ⟨cur1, k1, k2, k3⟩ := Blk.cells [.string y] 0 N0d
        have k1d : Blk ((((w.alloc (.cells #[.string y] 9)).alloc (.cells (((tx l).take 0).toArray ++ Builtin.zeroCells (Value.string ⟨#[]⟩).cells (l.length + 1 - 0) ++ Builtin.zeroCells (Value.string ⟨#[]⟩).cells (G - (l.length + 1))) 9)).drew.setCells (w.alloc (.cells #[.string y] 9)).heap.size 0 [.string y]).drew) (w.alloc (.cells #[.string y] 9)).heap.size cur1 9 := k1
        obtain ⟨cur2, k4, k5, k6⟩ := Blk.cells ((tx l).drop 0) (0 + 1) k1d
        have hs1 : cur1.size = G := by
          rw [k2]
          simp only [Array.size_append, zc_len, List.take_zero]
          simp
          omega
        have hBn : B ≤ (w.alloc (.cells #[.string y] 9)).heap.size := by simp; omega
        refine ⟨_, rfl, OwnT.of_blk (l := y :: l) k4 hBn (by simpa using hG') hG2' (by omega) (fun j s hs => ?_), below_cells _ hBn _ _ (below_cells _ hBn _ _ (hA.alloc hBn _).drew).drew⟩
        match j, hs with
        | 0, hs => simp at hs; subst hs; rw [k6, if_neg (by simp), k3, if_pos (by rw [← k2]; simp; omega)]; rfl
        | j + 1, hs =>
          have hj := (List.getElem?_eq_some_iff.1 hs).1
          simp at hj hs
          rw [k6, if_pos (by simp [tx]; omega)]
          simp [tx, hs]
end Go.Proofs.Ytccbgdbipihoaaa.Fr
namespace Go.Proofs.Ytccbgdbipihoaaa.Fr
open Go.RowKit Q Q.D K

theorem ans_some {l : Bs} {B : Nat} {e : Ending} {w' : World} {ps : List Bs} {r : Bs} (h : MethAns l B e w') (hm : meth l = some (ps, r)) :
    ∃ v, e = .returned (.tuple #[v, .string (str r), .bool true]) ∧ w'.ownsRow B 9 1 v ps.length (scells ps) := by
  rcases h with ⟨ps', r', v, h1, h2, h3⟩ | ⟨h1, _⟩
  · rw [hm] at h1
    simp only [Option.some.injEq, Prod.mk.injEq] at h1
    obtain ⟨rfl, rfl⟩ := h1
    exact ⟨v, h2, h3⟩
  · rw [hm] at h1; cases h1
theorem ans_none {l : Bs} {B : Nat} {e : Ending} {w' : World} (h : MethAns l B e w') (hm : meth l = none) :
    e = .returned (.tuple #[.slice none 0 0, .string ⟨#[]⟩, .bool false]) := by
  rcases h with ⟨ps', r', v, h1, h2, h3⟩ | ⟨_, h2⟩
  · rw [hm] at h1; cases h1
  · exact h2
def giv (st : Bool) (cls : ByteArray) (ps : List Bs) : List ByteArray := (if st then [] else [str (76 :: (cls.data.toList ++ [59]))]) ++ ps.map str
def quest : ByteArray := ⟨#[63]⟩
def firstZ (cls : ByteArray) (ds : ByteArray) (st : Bool) (loc : Int) : Option (List ByteArray) × Int :=
  match meth ds.data.toList with
  | none => (none, 13)
  | some (ps, _) => if ((giv st cls ps).length : Int) > loc ∨ loc > 16 then (none, 19) else (some (giv st cls ps ++ List.replicate (loc.toNat - (giv st cls ps).length) quest), 0)
def FirstQ (w : World) (z : Option (List ByteArray) × Int) (e : Ending) (w' : World) : Prop :=
  ∃ v, e = .returned (.tuple #[v, .int .i64 z.2]) ∧ Below w.heap.size w w' ∧ (match z.1 with | none => v = .slice none 0 0 | some l => OwnT w' w.heap.size v l)
theorem own_of_scells {w : World} {B : Nat} {v : Value} {ps : List Bs} (h : w.ownsRow B 9 1 v ps.length (scells ps)) : OwnT w B v (ps.map str) := by
  unfold OwnT
  rw [List.length_map, show tx (ps.map str) = scells ps by simp [tx, scells]]
  exact h
theorem laid1 (w : World) (y : ByteArray) (hy : y.size ≤ 9223372036854775807) : LAt 1 TextR (w.alloc (.cells #[.string y] 9)) (some ⟨w.heap.size, 0, none⟩) 1 [y] := by
  refine ⟨Nat.le_refl _, by unfold maxLen; omega, fun _ => [.string y], fun _ => ⟨w.heap.size, 0, rfl, by simp, fun j hj i u hu => ?_⟩, fun i x hx => ?_⟩
  · simp at hj
    subst hj
    match i, hu with
    | 0, hu => cases hu; rw [(Blk.new w #[.string y] 9).cell]; rfl
    | i + 1, hu => simp at hu
  · match i, hx with
    | 0, hx => cases hx; exact ⟨rfl, hy⟩
    | i + 1, hx => simp at hx
theorem OwnT.len {w : World} {B n c : Nat} {ao : Option Addr} {l : List ByteArray} (h : OwnT w B (.slice ao n c) l) : n = l.length := by
  obtain ⟨_, _, e⟩ := own_slice h
  cases e
  rfl
set_option maxRecDepth 8000 in
set_option maxHeartbeats 4000000 in
theorem first_any (w : World) (cls nm ds : ByteArray) (st nat : Bool) (stk loc : Int) (o1 o2 o3 : Option Addr) (m1 c1 m2 c2 m3 c3 : Nat) (hc : cls.size ≤ 1073741824) (hd : ds.size ≤ 9223372036854775807) :
    Calls Try.prog 6 #[.string cls, .agg #[.string nm, .string ds, .bool st, .bool nat, .int .i64 stk, .int .i64 loc, .slice o1 m1 c1, .slice o2 m2 c2, .slice o3 m3 c3]] w (FirstQ w (firstZ cls ds st loc)) := by
  have B1 := balloc w (.cells #[.string nm, .string ds, .bool st, .bool nat, .int .i64 stk, .int .i64 loc, .slice o1 m1 c1, .slice o2 m2 c2, .slice o3 m3 c3] 32)
  have X1 := Blk.new w #[.string nm, .string ds, .bool st, .bool nat, .int .i64 stk, .int .i64 loc, .slice o1 m1 c1, .slice o2 m2 c2, .slice o3 m3 c3] 32
  have HM := D.hidIt (method_any ds (w.alloc (.cells #[.string nm, .string ds, .bool st, .bool nat, .int .i64 stk, .int .i64 loc, .slice o1 m1 c1, .slice o2 m2 c2, .slice o3 m3 c3] 32)) hd)
  go_enter Try.func6, Try.ntmps6
  go_wp2_with fail
  generalize w.alloc (.cells #[.string nm, .string ds, .bool st, .bool nat, .int .i64 stk, .int .i64 loc, .slice o1 m1 c1, .slice o2 m2 c2, .slice o3 m3 c3] 32) = X at *
  refine HM.out.mono ?_
  rintro e w1 ⟨b1, hans⟩
  have X2 := X1.below b1
  have B2 := B1.trans (b1.mono B1.size)
  have hB2 := B2.size
  have hB1 := B1.size
  cases hm : meth ds.data.toList with
  | none =>
    have e1 := ans_none hans hm
    subst e1
    have hz : Hid (firstZ cls ds st loc = (none, 13)) := by show _ = _; unfold firstZ; rw [hm]
    clear hans HM hm
    go_wp2_with fail
    go_ret2
    rw [hz.out]
    exact ⟨_, rfl, B2, rfl⟩
  | some pr =>
    obtain ⟨ps, r⟩ := pr
    obtain ⟨v1, e1, ow1⟩ := ans_some hans hm
    subst e1
    have hps : ps.length ≤ 8 := (meth_inv hm).2.2.1
    have ow1' := own_of_scells ow1
    have hXw := b1.size
    have hX0 := X1.lt
    obtain ⟨a1, p1, rfl⟩ := own_slice ow1
    have HO1 := D.hidIt ow1'
    have x2 := X2.cell 2
    have x5 := X2.cell 5
    simp at x2 x5
    have hz : Hid (firstZ cls ds st loc = if ((giv st cls ps).length : Int) > loc ∨ loc > 16 then (none, 19) else (some (giv st cls ps ++ List.replicate (loc.toNat - (giv st cls ps).length) quest), 0)) := by show _ = _; unfold firstZ; rw [hm]
    have X2h := D.hidIt X2
    have B2h := D.hidIt B2
    clear hans HM hm ow1 ow1' X2 B2 X1 B1 b1
    generalize firstZ cls ds st loc = Z at *
    have key : ∃ G, G = giv st cls ps := ⟨_, rfl⟩
    obtain ⟨G, hG⟩ := key
    have hGl : G.length ≤ 9 := by
      rw [hG]
      unfold giv
      split <;> simp <;> omega
    rw [← hG] at hz
    have HG := D.hidIt hG
    clear hG
    have hXB : Hid (X.heap.size ≤ w1.heap.size) := hXw
    cases st
    case' true =>
      have HOG : Hid (OwnT w1 X.heap.size (.slice a1 ps.length p1) G) := by rw [HG.out]; exact HO1.out
      have hLG : ps.length = G.length := by rw [HG.out]; simp [giv]
      rw [hLG] at HOG ⊢
      clear hLG
      have HBG : Hid (Below X.heap.size w1 w1) := Below.refl _ _
      obtain ⟨W, hW⟩ : ∃ W, W = w1 := ⟨_, rfl⟩
      obtain ⟨aG, haG⟩ : ∃ a, a = a1 := ⟨_, rfl⟩
      obtain ⟨pG, hpG⟩ : ∃ a, a = p1 := ⟨_, rfl⟩
      have X3h := X2h
      have B3h := B2h
      go_upto_region 6 with (fail)
      clear x2 x5 HO1 X2h B2h
      subst hpG haG hW
    case' false =>
      have HR := D.hidIt (ref_any cls w1 hc)
      have HI := D.hidIt (insert0 w1 X.heap.size _ _ (str (76 :: (cls.data.toList ++ [59]))) HO1.out hXB.out (by simp; omega))
      go_upto_region 6 with (first
        | (go_at_call 21; refine HR.out.mono ?_; rintro e w' ⟨rfl, hww⟩; cases hww)
        | (go_at_call 20; refine HI.out.mono ?_; rintro e W ⟨v3, rfl, ow3, b3⟩; have HO3 := D.hidIt ow3; have HB3 := D.hidIt b3; clear ow3 b3))
      have HOG0 : Hid (OwnT W X.heap.size v3 G) := by rw [HG.out]; exact HO3.out
      obtain ⟨aG, pG, e3⟩ := own_slice HOG0.out
      subst e3
      have HOG := D.hidIt HOG0.out
      have X3h := D.hidIt (show Blk W _ _ _ from (HB3.out.block _ (by omega)).trans X2h.out)
      have B3h := D.hidIt (B2h.out.trans (HB3.out.mono (show w.heap.size ≤ X.heap.size by omega)))
      have hXB := D.hidIt (Nat.le_trans hXB.out HB3.out.size)
      clear x2 x5 HO1 X2h B2h HR HI HO3 HB3 HOG0
    all_goals
      have x5 := X3h.out.cell 5
      simp at x5
      clear hps
      by_cases hA : (G.length : Int) > loc
      · rw [if_pos (.inl hA)] at hz
        go_wp2_with fail
        go_ret2
        rw [hz.out]
        exact ⟨_, rfl, B3h.out, rfl⟩
      by_cases hB : loc > 16
      · rw [if_pos (.inr hB)] at hz
        go_wp2_with fail
        go_ret2
        rw [hz.out]
        exact ⟨_, rfl, B3h.out, rfl⟩
      rw [if_neg (by omega)] at hz
      obtain ⟨L, rfl⟩ : ∃ L : Nat, loc = (L : Int) := ⟨loc.toNat, by omega⟩
      have hLi : (G.length : Int) ≤ (L : Int) := by omega
      have hL16 : (L : Int) ≤ 16 := by omega
      have hS0 := D.hidIt HOG.out
      go_wp2_with fail
      go_loopw [6] (fun gv wr => ∃ (k : Nat) (a : Option Addr) (p : Nat), gv = .slice a (G.length + k) p ∧ G.length + k ≤ L ∧ OwnT wr X.heap.size (.slice a (G.length + k) p) (G ++ List.replicate k quest) ∧ Below X.heap.size W wr) (fun gv _ => L - sliceLen gv)
      case atStart => exact ⟨0, aG, pG, rfl, by omega, by simpa using HOG.out, Below.refl _ _⟩
      case round =>
        obtain ⟨k, a, p, rfl, hk, ho, hb⟩ := hrel
        have HO := D.hidIt ho
        have HB := D.hidIt hb
        have hz1 := hb.size
        have x5 := (show Blk wr _ _ _ from (hb.block _ (by have := hXB.out; omega)).trans X3h.out).cell 5
        simp at x5
        clear ho hb
        by_cases hlt : G.length + k < L
        · have hlt' : ((G.length + k : Nat) : Int) < (L : Int) := by omega
          have hlt2 : (G.length : Int) + (k : Int) < (L : Int) := by omega
          have HO2 := D.hidIt (HO.out.below (balloc wr (.cells #[.string ⟨#[63]⟩] 9)))
          have HL2 := D.hidIt (laid1 wr ⟨#[63]⟩ (by decide))
          have hsz2 : X.heap.size ≤ (wr.alloc (.cells #[.string ⟨#[63]⟩] 9)).heap.size := by simp; have := hXB.out; omega
          have hlen : (G ++ List.replicate k quest).length = G.length + k := by simp
          generalize hGk : G.length + k = n at *
          have HGk := D.hidIt hGk
          have HLen := D.hidIt hlen
          clear hGk hlen
          go_wp2_with (at_builtin; refine wpList_sappend rfl _ _ rfl X.heap.size _ _ [⟨#[63]⟩] _ 1 HO2.out rfl rfl HL2.out (by rw [HLen.out]; simp; omega) hsz2 ?_; intro v3 w3 ho3 _ hb3; have HO3 := D.hidIt ho3; have HB3 := D.hidIt (HB.out.trans (((Below.refl _ wr).alloc (Nat.le_trans hXB.out hz1) _).trans hb3)); obtain ⟨a3, p3, e3⟩ := own_slice ho3; subst e3; clear ho3 hb3)
          have hGk := HGk.out
          have e : (G ++ List.replicate k quest ++ [ByteArray.mk #[63]]).length = G.length + (k + 1) := by simp
          go_roundw
          · refine ⟨k + 1, a3, p3, rfl, by omega, ?_, HB3.out⟩
            rw [← e, List.replicate_succ', ← List.append_assoc]
            exact HO3.out
          · simp only [sliceLen]; omega
        · have hlt' : ¬ ((G.length + k : Nat) : Int) < (L : Int) := by omega
          have hlt2 : ¬ (G.length : Int) + (k : Int) < (L : Int) := by omega
          go_wp2_with fail
          go_ret2
          rw [hz.out]
          refine ⟨_, rfl, B3h.out.trans (HB.out.mono hB1), ?_⟩
          have e : ((L : Int).toNat - G.length) = k := by omega
          simp only [e]
          exact HO.out.mono hB1
end Go.Proofs.Ytccbgdbipihoaaa.Fr
namespace Go.Proofs.Ytccbgdbipihoaaa.Q
open Go.RowKit D




end Go.Proofs.Ytccbgdbipihoaaa.Q
namespace Go.Proofs.Ytccbgdbipihoaaa.K
open Go.RowKit Q Q.D

set_option maxRecDepth 8000 in
set_option maxHeartbeats 2000000 in
theorem same_any (a1 : Option Addr) (c1 : Nat) (a2 : Option Addr) (c2 : Nat) (l : List ByteArray) (w : World) (h1 : LAt 1 TextR w a1 c1 l) (h2 : LAt 1 TextR w a2 c2 l) :
    Calls Try.prog 10 #[.slice a1 l.length c1, .slice a2 l.length c2] w fun e w' => e = .returned (.bool true) ∧ Below w.heap.size w w' := by
  have hbig := h1.big
  go_enter Try.func10, Try.ntmps10
  go_wp2
  go_loopw [5] (fun iv wr => ∃ i : Nat, iv = .int .i64 (i : Int) ∧ i ≤ l.length ∧ Below w.heap.size w wr) (fun iv _ => l.length - (intOf iv).toNat)
  case atStart => exact ⟨0, rfl, Nat.zero_le _, Below.refl _ _⟩
  case round =>
    obtain ⟨i, rfl, hi, hB⟩ := hrel
    by_cases hlt : i < l.length
    · have hlt' : (i : Int) < (l.length : Int) := by omega
      obtain ⟨_, _, r1, g1, k1⟩ := h1.below hB (fun _ _ h => h)
      obtain ⟨_, _, r2, g2, k2⟩ := h2.below hB (fun _ _ h => h)
      obtain ⟨b1, o1, rfl, _, d1⟩ := g1 (by omega)
      obtain ⟨b2, o2, rfl, _, d2⟩ := g2 (by omega)
      obtain ⟨x, hx⟩ : ∃ x, l[i]? = some x := ⟨_, List.getElem?_eq_getElem hlt⟩
      have e1 := d1 i hlt 0 (.string x) (by rw [(k1 i x hx).1]; rfl)
      have e2 := d2 i hlt 0 (.string x) (by rw [(k2 i x hx).1]; rfl)
      simp only [Nat.mul_one, Nat.add_zero] at e1 e2
      clear d1 d2 g1 g2 k1 k2
      go_wp2_with fail
      go_region
      all_goals go_wp2
      all_goals go_roundw
      all_goals first
        | exact ⟨i + 1, by go_num, by omega, hB.drew⟩
        | (simp [intOf]; omega)
    · have hlt' : ¬ (i : Int) < (l.length : Int) := by omega
      go_wp2
      go_ret
      exact ⟨rfl, hB⟩
end Go.Proofs.Ytccbgdbipihoaaa.K
namespace Go.Proofs.Ytccbgdbipihoaaa.Fr
open Go.RowKit Q Q.D K

theorem FirstQ.no {w w' : World} {e : Ending} {k : Int} (h : FirstQ w (none, k) e w') : e = .returned (.tuple #[.slice none 0 0, .int .i64 k]) ∧ Below w.heap.size w w' := by
  obtain ⟨v, rfl, b, hv⟩ := h
  simp only at hv
  subst hv
  exact ⟨rfl, b⟩
theorem FirstQ.yes {w w' : World} {e : Ending} {l : List ByteArray} {k : Int} (h : FirstQ w (some l, k) e w') (hs : ∀ s ∈ l, s.size ≤ 9223372036854775807) : ∃ ao c, e = .returned (.tuple #[.slice ao l.length c, .int .i64 k]) ∧ LAt 1 TextR w' ao c l ∧ Below w.heap.size w w' := by
  obtain ⟨v, rfl, b, hv⟩ := h
  simp only at hv
  obtain ⟨ao, c, rfl, hl⟩ := hv.at hs
  exact ⟨ao, c, rfl, hl, b⟩
theorem laids (w : World) (l : List ByteArray) (hl : ∀ s ∈ l, s.size ≤ 9223372036854775807) (hn : l.length ≤ 1000) : LAt 1 TextR (w.alloc (.cells (l.map Value.string).toArray 9)) (some ⟨w.heap.size, 0, none⟩) l.length l := by
  refine ⟨Nat.le_refl _, by unfold maxLen; omega, fun j => [.string (l.getD j ⟨#[]⟩)], fun _ => ⟨w.heap.size, 0, rfl, by simp, fun j hj i u hu => ?_⟩, fun i x hx => ?_⟩
  · match i, hu with
    | 0, hu =>
      cases hu
      rw [(Blk.new w _ 9).cell]
      simp [List.getD_eq_getElem?_getD, hj]
    | i + 1, hu => simp at hu
  · exact ⟨by simp only [List.getD_eq_getElem?_getD, hx]; rfl, hl x (List.mem_of_getElem? hx)⟩
theorem zero_view (w : World) : FrV w zeroF ⟨0, [], []⟩ := ⟨none, 0, none, 0, rfl, LAt.nil _ _ _ _ _ (by unfold maxLen; omega), LAt.nil _ _ _ _ _ (by unfold maxLen; omega)⟩
theorem z_known : firstZ ⟨#[65]⟩ ⟨#[40, 73, 41, 86]⟩ false 3 = (some [⟨#[76, 65, 59]⟩, ⟨#[73]⟩, ⟨#[63]⟩], 0) := by kernel_rfl
theorem boxed (W : World) (row : Array Value) : Blk ((W.alloc (.cells #[.int .i64 0, .slice none 0 0, .slice none 0 0] 34)).setRow W.heap.size row) W.heap.size row 34 ∧ Below W.heap.size W ((W.alloc (.cells #[.int .i64 0, .slice none 0 0, .slice none 0 0] 34)).setRow W.heap.size row) :=
  ⟨setRow_heap _ _ _ _ _ _ (Blk.new W _ _), below_setRow (balloc W _) (Nat.le_refl _) _⟩
set_option maxRecDepth 8000 in
set_option maxHeartbeats 2000000 in
theorem known_any (w : World) : Calls Try.prog 12 #[] w fun e w' => e = .returned (.bool true) ∧ Below w.heap.size w w' := by
  have GF := D.hidIt (fun W => first_any W ⟨#[65]⟩ ⟨#[]⟩ ⟨#[40, 73, 41, 86]⟩ false false 0 3 none none none 0 0 0 0 0 0 (by decide) (by decide))
  rw [z_known] at GF
  go_enter Try.func12, Try.ntmps12
  go_upto_region 2 with (first | (go_at_call 6; refine (GF.out _).mono ?_; intro e w1 hq; obtain ⟨a1, p1, rfl, hl1, b1⟩ := FirstQ.yes hq (by decide)))
  clear hq
  have HL1 := D.hidIt hl1
  have GP := D.hidIt (pop_no w1 zeroF _ (zero_view w1) 1 (by simp))
  unfold zeroF at GP
  clear hl1 GF
  go_upto_region 3 with (first | (go_at_call 7; refine GP.out.mono ?_; rintro e w2 ⟨rfl, b2⟩) | (refine wpList_store_row rfl 34 _ _ rfl w2.heap.size #[.int .i64 0, .slice none 0 0, .slice none 0 0] rfl rfl 34 _ (Blk.new w2 _ _) (by kernel_rfl) rfl (by simp [Value.oneCell']) ?_))
  obtain ⟨_, b3⟩ := boxed w2 #[.int .i64 0, .slice none 0 0, .slice none 0 0]
  have HB3 := D.hidIt (b1.trans (((b2.trans (b3.mono b2.size))).mono b1.size))
  have HL3 := D.hidIt ((HL1.out.below b2 (fun _ _ h => h)).below b3 (fun _ _ h => h))
  clear GP HL1 b1 b2 b3
  generalize (w2.alloc (.cells #[.int .i64 0, .slice none 0 0, .slice none 0 0] 34)).setRow w2.heap.size #[.int .i64 0, .slice none 0 0, .slice none 0 0] = w3 at *
  have hv : FrV (w3.alloc (.cells #[.string ⟨#[73]⟩] 9)) (.agg #[.int .i64 0, .slice (some ⟨w3.heap.size, 0, none⟩) 1 1, .slice none 0 0]) ⟨0, [⟨#[73]⟩], []⟩ := ⟨_, _, _, _, rfl, laid1 w3 _ (by decide), LAt.nil _ _ _ _ _ (by unfold maxLen; omega)⟩
  have GS := D.hidIt (set_no _ _ _ hv 1 ⟨#[73]⟩ (.inr (by decide)))
  have b4 := balloc w3 (.cells #[.string ⟨#[73]⟩] 9)
  unfold zeroF at GS
  clear hv
  go_upto_region 4 with (first | (go_at_call 13; refine GS.out.mono ?_; rintro e w5 ⟨rfl, b5⟩) | (refine wpList_store_row rfl 34 _ _ rfl w5.heap.size #[.int .i64 0, .slice none 0 0, .slice none 0 0] rfl rfl 34 _ (Blk.new w5 _ _) (by kernel_rfl) rfl (by simp [Value.oneCell']) ?_))
  obtain ⟨_, b6⟩ := boxed w5 #[.int .i64 0, .slice none 0 0, .slice none 0 0]
  have b7 := (b4.trans (b5.mono b4.size)).trans (b6.mono (Nat.le_trans b4.size b5.size))
  have HB6 := D.hidIt (HB3.out.trans (b7.mono HB3.out.size))
  have HL6 := D.hidIt (HL3.out.below b7 (fun _ _ h => h))
  clear GS HL3 HB3 b4 b5 b6 b7
  generalize (w5.alloc (.cells #[.int .i64 0, .slice none 0 0, .slice none 0 0] 34)).setRow w5.heap.size #[.int .i64 0, .slice none 0 0, .slice none 0 0] = w6 at *
  have HSM := D.hidIt (same_any a1 p1 _ _ _ _ (HL6.out.below (balloc w6 (.cells ([⟨#[76, 65, 59]⟩, ⟨#[73]⟩, ⟨#[63]⟩].map Value.string).toArray 9)) (fun _ _ h => h)) (laids w6 _ (by decide) (by decide)))
  simp only [List.length_cons, List.length_nil, List.map_cons, List.map_nil] at HSM
  have b8 := balloc w6 (.cells #[.string ⟨#[76, 65, 59]⟩, .string ⟨#[73]⟩, .string ⟨#[63]⟩] 9)
  go_wp2_with (first | (go_at_call 10; refine HSM.out.mono ?_; rintro e w9 ⟨rfl, b9⟩))
  go_ret
  exact ⟨rfl, HB6.out.trans ((b8.trans (b9.mono b8.size)).mono HB6.out.size)⟩
end Go.Proofs.Ytccbgdbipihoaaa.Fr
namespace Go.Proofs.Ytccbgdbipihoaaa.BK
open Go.RowKit Q.D
theorem IsBk.move {B pb : Nat} {w w' : World} {L W : Value} {held : Int} {its : List It} (h : IsBk B pb w L W held its) (hb : ∀ k, k < w.heap.size → (B ≤ k ∨ k = pb) → w'.heap[k]? = w.heap[k]?) : IsBk B pb w' L W held its := by
  have own : ∀ {n : Nat} {v : Value} {xs : List Value}, w.ownsRow B 9 1 v n xs → w'.ownsRow B 9 1 v n xs := fun ho =>
    own_keep ho fun g cur hg hc => hb g (Array.getElem?_eq_some_iff.1 hc).1 (.inl (ho.lt g hg).1)
  exact ⟨(hb pb (Array.getElem?_eq_some_iff.1 h.blk).1 (.inr rfl)).trans h.blk, h.sl.keep fun g hg hlt => hb g hlt (.inl (h.sl.lt g hg).1), h.sw.keep fun g hg hlt => hb g hlt (.inl (h.sw.lt g hg).1), h.ne, fun p hp => ⟨own (h.fine p hp).l, own (h.fine p hp).c, (h.fine p hp).b⟩, h.away⟩
theorem IsBk.below {B pb : Nat} {w w' : World} {L W : Value} {held : Int} {its : List It} (h : IsBk B pb w L W held its) (hb : Below w.heap.size w w') : IsBk B pb w' L W held its := h.move fun k hk _ => hb.block k hk
end Go.Proofs.Ytccbgdbipihoaaa.BK
namespace Go.Proofs.Ytccbgdbipihoaaa.Fr
open Go.RowKit Q Q.D K
theorem scells_tx (l : List ByteArray) : scells (l.map fun s => s.data.toList) = tx l := by
  simp only [scells, tx, List.map_map]
  refine List.map_congr_left (fun s _ => ?_)
  simp only [Function.comp]
  rw [str_data]
theorem Kp_blk {B pb b : Nat} {w w' : World} {row : Array Value} {T : TypeId} (h : BK.Kp B pb w w') (hb : Blk w b row T) (hne : b ≠ pb) (hT : T ≠ 24) : Blk w' b row T :=
  (h.block b hb.lt hne (.inr fun cs e => by
    have := hb.symm.trans e
    simp at this
    exact hT this.2)).trans hb
theorem Kp_own {B pb B' : Nat} {w w' : World} {v : Value} {l : List ByteArray} {L W : Value} {held : Int} {its : List BK.It} (h : BK.Kp B pb w w') (hb : BK.IsBk B pb w L W held its) (ho : OwnT w B' v l) : OwnT w' B' v l := h.own ho hb.no5
theorem keep_up (B pb N N' : Nat) (L W v : Value) (held : Int) (its : List BK.It) (l : List ByteArray) (w : World) (h : BK.IsBk B pb w L W held its) (hv : OwnT w N v l) (hBN : B ≤ N) (hN : ∀ p ∈ its, ∀ g, p.l.ownBlock = some g → g < N) (hv' : ∀ g, v.ownBlock = some g → g < N') (hNN : N ≤ N') (hlen : its.length ≤ 1000) (hm : l.length ≤ 8796093022100) (hB : B ≤ w.heap.size) (hpb : pb < B) :
    Calls Try.prog 14 #[.pointer (some ⟨pb, 0, none⟩), v] w fun e w' => e = .returned (.tuple #[]) ∧ BK.Kp B pb w w' ∧ ∃ L' W' held' its', BK.IsBk B pb w' L' W' held' its' ∧ its'.length ≤ its.length + 1 ∧ ∀ p ∈ its', ∀ g, p.l.ownBlock = some g → g < N' := by
  have ho : w.ownsRow B 9 1 v (l.map fun s => s.data.toList).length (scells (l.map fun s => s.data.toList)) := by
    rw [scells_tx, List.length_map]
    exact hv.mono hBN
  refine (BK.keep_any B pb L W v held its (l.map fun s => s.data.toList) w h ho trivial (fun p hp g hg e => ?_) hlen (by rw [List.length_map]; omega) hB hpb).mono ?_
  · have h1 := hN p hp g hg
    have h2 := (hv.lt g e).1
    omega
  · rintro e w' ⟨rfl, K, L', W', held', its', HB, hl, hmem⟩
    refine ⟨rfl, K, L', W', held', its', HB, hl, fun p hp g hg => ?_⟩
    rcases hmem p hp with hp | e
    · have := hN p hp g hg; omega
    · rw [e] at hg; exact hv' g hg
theorem set_kept (w : World) (v : Value) (f : RD) (h : FrV w v f) (t : ByteArray) (n1 : f.loc.length ≤ 8796093022050) (n2 : f.stk.length ≤ 8796093022050) :
    Calls Try.prog 13 #[v, .int .i64 0, .string t] w fun e w' => ∃ x er o1 k1 c1 o2 k2 c2 l1 l2 m, e = .returned (.tuple #[.agg #[.int .i64 x, .slice o1 k1 c1, .slice o2 k2 c2], .int .i64 er]) ∧ OwnT w' w.heap.size (.slice o1 k1 c1) l1 ∧ OwnT w' m (.slice o2 k2 c2) l2 ∧ w.heap.size ≤ m ∧ m ≤ w'.heap.size ∧ (∀ k, (Value.slice o1 k1 c1).ownBlock = some k → k < m) ∧ l1.length ≤ 8796093022050 ∧ l2.length ≤ 8796093022050 ∧ Below w.heap.size w w' := by
  by_cases h0 : f.loc.length = 0
  · refine (set_no w v f h 0 t (.inr (by omega))).mono ?_
    rintro e w' ⟨rfl, b⟩
    exact ⟨0, 19, none, 0, 0, none, 0, 0, [], [], w.heap.size, rfl, OwnT.nil _ _, OwnT.nil _ _, Nat.le_refl _, b.size, fun k hk => by simp [Value.ownBlock] at hk, by simp, by simp, b⟩
  · refine (set_ok w v f h 0 t n1 n2 (by omega)).mono ?_
    rintro e w' ⟨v', rfl, ⟨v1, v2, m, rfl, ow1, ow2, h3, h4, h5⟩, b⟩
    obtain ⟨a1, p1, rfl⟩ := own_slice ow1
    obtain ⟨a2, p2, rfl⟩ := own_slice ow2
    exact ⟨f.aT, 0, a1, _, p1, a2, _, p2, _, _, m, rfl, ow1, ow2, h3, h4, h5, by simpa using n1, n2, b⟩
end Go.Proofs.Ytccbgdbipihoaaa.Fr
