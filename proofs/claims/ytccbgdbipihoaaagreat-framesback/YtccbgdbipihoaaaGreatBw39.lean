/- Texts FRg FRh QBT FRn FBc. -/
import Derived.Test.YtccbgdbipihoaaaGreatBw38
import Derived.Test.YtccbgdbipihoaaaGreatBw35
import Derived.Deep.CutRange
import Derived.Test.YtccbgdbipihoaaaGreatBw25
import Derived.BigQuiet
import Derived.Deep.QuietTactic
import Derived.Test.YtccbgdbipihoaaaGreatBw34
import Derived.Test.YtccbgdbipihoaaaGreatBw20
import Derived.Test.YtccbgdbipihoaaaGreatBw36
namespace Go.Proofs.YtccbgdbipihoaaaGreat.Fr
open Go.RowKit Q Q.D K

theorem Blk.cells {b : Nat} {T : TypeId} : ∀ (xs : List Value) (o : Nat) {W : World} {cur : Array Value}, Blk W b cur T → ∃ cur', Blk (W.setCells b o xs) b cur' T ∧ cur'.size = cur.size ∧ ∀ j, cur'[j]? = if o ≤ j ∧ j < o + xs.length ∧ j < cur.size then xs[j - o]? else cur[j]?
  | [], o, W, cur, h => ⟨cur, h, rfl, fun j => by rw [if_neg (by simp; omega)]⟩
  | v :: xs, o, W, cur, h => by
    obtain ⟨cur', h1, h2, h3⟩ := Blk.cells xs (o + 1) (h.set o v)
    refine ⟨cur', h1, by rw [h2]; simp, fun j => ?_⟩
    rw [h3]
    simp only [Array.size_setIfInBounds, List.length_cons]
    by_cases hj : o + 1 ≤ j ∧ j < o + 1 + xs.length ∧ j < cur.size
    · rw [if_pos hj, if_pos (by omega), show j - o = (j - (o + 1)) + 1 by omega, List.getElem?_cons_succ]
    · rw [if_neg hj, Array.getElem?_setIfInBounds]
      by_cases e : o = j
      · subst e
        rw [if_pos rfl]
        by_cases hl : o < cur.size
        · rw [if_pos hl, if_pos (by omega)]; simp
        · rw [if_neg hl, if_neg (by omega), Array.getElem?_eq_none (by omega)]
      · rw [if_neg e, if_neg (by omega)]
theorem below_cells {B : Nat} {a : World} (b : Nat) (hb : B ≤ b) : ∀ (vs : List Value) (o : Nat) {w : World}, Below B a w → Below B a (w.setCells b o vs)
  | [], _, _, h => h
  | v :: vs, o, _, h => below_cells b hb vs (o + 1) (below_set h hb o v)
theorem OwnT.of_blk {W : World} {B b cap : Nat} {cur : Array Value} {l : List ByteArray} (hb : Blk W b cur 9) (hB : B ≤ b) (h1 : l.length ≤ cap) (h2 : cap ≤ maxLen) (h3 : cur.size = cap) (h4 : ∀ (j : Nat) (s : ByteArray), l[j]? = some s → cur[j]? = some (Value.string s)) : OwnT W B (.slice (some ⟨b, 0, none⟩) l.length cap) l := by
  refine ⟨by simp [tx], .inr ⟨b, cap, cur, rfl, hB, hb, h1, h2, by omega, ?_⟩⟩
  refine List.ext_getElem? (fun j => ?_)
  rw [Nat.mul_one, List.getElem?_take]
  by_cases hj : j < l.length
  · rw [if_pos hj]
    obtain ⟨s, hs⟩ : ∃ s, l[j]? = some s := ⟨_, List.getElem?_eq_getElem hj⟩
    have := h4 j s hs
    rw [← Array.getElem?_toList] at this
    rw [this]
    simp [tx, hs]
  · rw [if_neg hj, List.getElem?_eq_none (by simp [tx]; omega)]
theorem one_tx (l : List ByteArray) : ∀ v ∈ tx l, v.oneCell' = true := by
  intro v hv
  simp only [tx, List.mem_map] at hv
  obtain ⟨s, _, rfl⟩ := hv
  rfl
set_option maxRecDepth 8000 in
set_option maxHeartbeats 1000000 in
theorem insert0 (w : World) (B : Nat) (v : Value) (l : List ByteArray) (y : ByteArray) (h : OwnT w B v l) (hB : B ≤ w.heap.size) (hl : l.length ≤ 1000000) :
    Calls Tryz.prog 53 #[v, .int .i64 0, .slice (some ⟨w.heap.size, 0, none⟩) 1 1] (w.alloc (.cells #[.string y] 9)) fun e w' => ∃ v', e = .returned v' ∧ OwnT w' B v' (y :: l) ∧ Below B w w' := by
  have hA : Below B w (w.alloc (.cells #[.string y] 9)) := (Below.refl _ _).alloc hB _
  have V := Blk.new w #[.string y] 9
  have hvs : ∀ j u, ([Value.string y] : List Value)[j]? = some u → (w.alloc (.cells #[.string y] 9)).cell? ⟨w.heap.size, 0 + j, none⟩ = some u := by
    intro j u hj
    match j, hj with
    | 0, hj => simp at hj; subst hj; rw [V.cell]; rfl
    | j + 1, hj => simp at hj
  have h1v : ∀ u ∈ ([Value.string y] : List Value), u.oneCell' = true := by intro u hu; simp at hu; subst hu; rfl
  rcases h.2 with ⟨rfl, e0⟩ | ⟨g, cap, cur, e, hBg, hg, h1, h2, h3, h4⟩
  · obtain rfl : l = [] := List.length_eq_zero_iff.1 e0
    refine (Any2.slices_Insert_string_end_grow Tryz.insS none 0 0 w.heap.size 0 1 1 [] [.string y] _ (by omega) (by omega) (by omega) (by omega) rfl rfl (fun _ => rfl) (fun a ha => by cases ha) hvs h1v).mono ?_
    rintro e w' ⟨rfl, rfl⟩
    have hG := grownCap_ge (w.alloc (.cells #[.string y] 9)) (0 + 1) 0 9
    have hG2 := grownCap_le_maxLen (w.alloc (.cells #[.string y] 9)) (0 + 1) 0 9 (by unfold maxLen; omega)
    refine ⟨_, rfl, ?_, ((hA).drew.alloc (by simp; omega) _)⟩
    refine OwnT.of_blk (l := [y]) (Blk.new (w.alloc (.cells #[.string y] 9)).drew _ _) (by simp; omega) hG hG2 ?_ ?_
    · simp only [Array.size_append, zc_len]
      show 1 + _ = _
      exact Nat.add_sub_cancel' hG
    · intro j s hs
      match j, hs with
      | 0, hs => simp at hs; subst hs; rw [Array.getElem?_append_left (by simp)]; rfl
      | j + 1, hs => simp at hs
  · subst e
    have hglt := (Array.getElem?_eq_some_iff.1 hg).1
    have hG0 : Blk (w.alloc (.cells #[.string y] 9)) g cur 9 := Blk.alloc (show Blk w g cur 9 from hg) _
    have hcs : ∀ j u, (tx l)[j]? = some u → (w.alloc (.cells #[.string y] 9)).cell? ⟨g, 0 + j, none⟩ = some u := by
      intro j u hj
      have := h.cells (g := g) rfl j u hj
      rw [Addr.add_lit] at this
      exact cell_later (Below.alloc (Below.refl _ w) (Nat.le_refl _) _) this
    have hcur : ∀ (j : Nat) (s : ByteArray), l[j]? = some s → cur[j]? = some (Value.string s) := by
      intro j s hs
      have := h.cells (g := g) rfl j (.string s) (by simp [tx, hs])
      rw [Addr.add_lit, Nat.zero_add, Blk.cell (show Blk w g cur 9 from hg)] at this
      exact this
    have hsz : cur.size = cap := by omega
    by_cases hroom : l.length + 1 ≤ cap
    · by_cases hl0 : l.length = 0
      · obtain rfl : l = [] := List.length_eq_zero_iff.1 hl0
        refine (Any2.slices_Insert_string_end_room Tryz.insS g 0 0 cap w.heap.size 0 1 1 [.string y] _ (by omega) hroom (by unfold maxLen at h2; omega) rfl (fun j hj => ?_) (fun j hj => hG0.frozen _) hvs h1v).mono ?_
        · rw [hG0.cell, Array.getElem?_eq_getElem (by simp at hroom; omega)]; rfl
        rintro e w' ⟨rfl, rfl⟩
        obtain ⟨cur', k1, k2, k3⟩ := Blk.cells [.string y] (0 + 0) hG0
        refine ⟨_, rfl, OwnT.of_blk (l := [y]) k1 hBg hroom h2 (by omega) (fun j s hs => ?_), below_cells g hBg _ _ hA⟩
        match j, hs with
        | 0, hs => simp at hs; subst hs; rw [k3, if_pos (by simp at hroom ⊢; omega)]; rfl
        | j + 1, hs => simp at hs
      · refine (Any2.slices_Insert_string_shift Tryz.insS g 0 l.length cap 0 w.heap.size 0 1 1 (tx l) [.string y] _ (by omega) (by omega) hroom (by unfold maxLen at h2; omega) (by omega) (tx_len l) rfl hcs (fun j hj => ?_) (fun j hj => hG0.frozen _) hvs (one_tx l) h1v 9 9 1 cur.size ?_ ?_ (by omega) (V.frozen _) (V.frozen _)).mono ?_
        · rw [hG0.cell, Array.getElem?_eq_getElem (by omega)]; rfl
        · simp only [World.shape?, show (w.alloc (.cells #[.string y] 9)).heap[w.heap.size]? = _ from V]; rfl
        · simp only [World.shape?, show (w.alloc (.cells #[.string y] 9)).heap[g]? = _ from hG0]
        rintro e w' ⟨rfl, rfl⟩
        have hGd : Blk (w.alloc (.cells #[.string y] 9)).drew g cur 9 := hG0
        obtain ⟨cur1, k1, k2, k3⟩ := Blk.cells ((tx l).drop 0) (0 + (0 + 1)) hGd
        obtain ⟨cur2, k4, k5, k6⟩ := Blk.cells [.string y] (0 + 0) k1
        refine ⟨_, rfl, OwnT.of_blk (l := y :: l) k4 hBg (by simpa using hroom) h2 (by omega) (fun j s hs => ?_), below_cells g hBg _ _ (below_cells g hBg _ _ hA.drew)⟩
        match j, hs with
        | 0, hs => simp at hs; subst hs; rw [k6, if_pos (by simp; omega)]; rfl
        | j + 1, hs =>
          have hj := (List.getElem?_eq_some_iff.1 hs).1
          simp at hj hs
          rw [k6, if_neg (by simp), k3, if_pos (by simp [tx]; omega)]
          simp [tx, hs]
    · have hcl : cap = l.length := by omega
      have hbig : (l.length + 1) * 16 ≤ 140737488355328 := by omega
      have hG := grownCap_ge (w.alloc (.cells #[.string y] 9)) (l.length + 1) cap 9
      have hG2 := grownCap_le_maxLen (w.alloc (.cells #[.string y] 9)) (l.length + 1) cap 9 (by unfold maxLen; omega)
      by_cases hl0 : l.length = 0
      · obtain rfl : l = [] := List.length_eq_zero_iff.1 hl0
        refine (Any2.slices_Insert_string_end_grow Tryz.insS (some ⟨g, 0, none⟩) 0 cap w.heap.size 0 1 1 [] [.string y] _ (by omega) (by omega) (by omega) (by omega) rfl rfl (fun e => by cases e) (fun a ha j u hj => by simp at hj) hvs h1v).mono ?_
        rintro e w' ⟨rfl, rfl⟩
        refine ⟨_, rfl, ?_, ((hA).drew.alloc (by simp; omega) _)⟩
        refine OwnT.of_blk (l := [y]) (Blk.new (w.alloc (.cells #[.string y] 9)).drew _ _) (by simp; omega) hG hG2 ?_ ?_
        · simp only [Array.size_append, zc_len]
          show 1 + _ = _
          exact Nat.add_sub_cancel' hG
        · intro j s hs
          match j, hs with
          | 0, hs => simp at hs; subst hs; rw [Array.getElem?_append_left (by simp)]; rfl
          | j + 1, hs => simp at hs
      · refine (Any2.slices_Insert_string_grow Tryz.insS g 0 l.length cap 0 w.heap.size 0 1 1 (tx l) [.string y] _ (by omega) (by omega) (by omega) (by omega) hbig (tx_len l) rfl hcs hvs (one_tx l) h1v).mono ?_
        rintro e w' ⟨rfl, rfl⟩
        generalize hGG : grownCap (w.alloc (.cells #[.string y] 9)) (l.length + 1) cap (Tryz.insS_ren.t 9) = G
        have hG' : l.length + 1 ≤ G := by rw [← hGG]; exact hG
        have hG2' : G ≤ maxLen := by rw [← hGG]; exact hG2
        have N0 := Blk.new (w.alloc (.cells #[.string y] 9)) (((tx l).take 0).toArray ++ Builtin.zeroCells (Value.string ⟨#[]⟩).cells (l.length + 1 - 0) ++ Builtin.zeroCells (Value.string ⟨#[]⟩).cells (G - (l.length + 1))) 9
        have N0d : Blk ((w.alloc (.cells #[.string y] 9)).alloc (.cells (((tx l).take 0).toArray ++ Builtin.zeroCells (Value.string ⟨#[]⟩).cells (l.length + 1 - 0) ++ Builtin.zeroCells (Value.string ⟨#[]⟩).cells (G - (l.length + 1))) 9)).drew (w.alloc (.cells #[.string y] 9)).heap.size _ 9 := N0
        obtain ⟨cur1, k1, k2, k3⟩ := Blk.cells [.string y] 0 N0d
        have k1d : Blk ((((w.alloc (.cells #[.string y] 9)).alloc (.cells (((tx l).take 0).toArray ++ Builtin.zeroCells (Value.string ⟨#[]⟩).cells (l.length + 1 - 0) ++ Builtin.zeroCells (Value.string ⟨#[]⟩).cells (G - (l.length + 1))) 9)).drew.setCells (w.alloc (.cells #[.string y] 9)).heap.size 0 [.string y]).drew) (w.alloc (.cells #[.string y] 9)).heap.size cur1 9 := k1
        obtain ⟨cur2, k4, k5, k6⟩ := Blk.cells ((tx l).drop 0) (0 + 1) k1d
        have hs1 : cur1.size = G := by
          rw [k2]
          simp only [Array.size_append, zc_len, List.take_zero]
          simp
          omega
        have hBn : B ≤ (w.alloc (.cells #[.string y] 9)).heap.size := by simp; omega
        refine ⟨_, rfl, OwnT.of_blk (l := y :: l) k4 hBn (by simpa using hG') hG2' (by omega) (fun j s hs => ?_), below_cells _ hBn _ _ (below_cells _ hBn _ _ (hA.alloc hBn _).drew).drew⟩
        match j, hs with
        | 0, hs => simp at hs; subst hs; rw [k6, if_neg (by simp), k3, if_pos (by rw [← k2]; simp; omega)]; rfl
        | j + 1, hs =>
          have hj := (List.getElem?_eq_some_iff.1 hs).1
          simp at hj hs
          rw [k6, if_pos (by simp [tx]; omega)]
          simp [tx, hs]
end Go.Proofs.YtccbgdbipihoaaaGreat.Fr
namespace Go.Proofs.YtccbgdbipihoaaaGreat.Fr
open Go.RowKit Q Q.D K

theorem ans_some {l : Bs} {B : Nat} {e : Ending} {w' : World} {ps : List Bs} {r : Bs} (h : MethAns l B e w') (hm : meth l = some (ps, r)) :
    ∃ v, e = .returned (.tuple #[v, .string (str r), .bool true]) ∧ w'.ownsRow B 9 1 v ps.length (scells ps) := by
  rcases h with ⟨ps', r', v, h1, h2, h3⟩ | ⟨h1, _⟩
  · rw [hm] at h1
    simp only [Option.some.injEq, Prod.mk.injEq] at h1
    obtain ⟨rfl, rfl⟩ := h1
    exact ⟨v, h2, h3⟩
  · rw [hm] at h1; cases h1
theorem ans_none {l : Bs} {B : Nat} {e : Ending} {w' : World} (h : MethAns l B e w') (hm : meth l = none) :
    e = .returned (.tuple #[.slice none 0 0, .string ⟨#[]⟩, .bool false]) := by
  rcases h with ⟨ps', r', v, h1, h2, h3⟩ | ⟨_, h2⟩
  · rw [hm] at h1; cases h1
  · exact h2
def giv (st : Bool) (cls : ByteArray) (ps : List Bs) : List ByteArray := (if st then [] else [str (76 :: (cls.data.toList ++ [59]))]) ++ ps.map str
def quest : ByteArray := ⟨#[63]⟩
def firstZ (cls : ByteArray) (ds : ByteArray) (st : Bool) (loc : Int) : Option (List ByteArray) × Int :=
  match meth ds.data.toList with
  | none => (none, 13)
  | some (ps, _) => if ((giv st cls ps).length : Int) > loc ∨ loc > 16 then (none, 19) else (some (giv st cls ps ++ List.replicate (loc.toNat - (giv st cls ps).length) quest), 0)
def FirstQ (w : World) (z : Option (List ByteArray) × Int) (e : Ending) (w' : World) : Prop :=
  ∃ v, e = .returned (.tuple #[v, .int .i64 z.2]) ∧ Below w.heap.size w w' ∧ (match z.1 with | none => v = .slice none 0 0 | some l => OwnT w' w.heap.size v l)
theorem own_of_scells {w : World} {B : Nat} {v : Value} {ps : List Bs} (h : w.ownsRow B 9 1 v ps.length (scells ps)) : OwnT w B v (ps.map str) := by
  unfold OwnT
  rw [List.length_map, show tx (ps.map str) = scells ps by simp [tx, scells]]
  exact h
theorem laid1 (w : World) (y : ByteArray) (hy : y.size ≤ 9223372036854775807) : LAt 1 TextR (w.alloc (.cells #[.string y] 9)) (some ⟨w.heap.size, 0, none⟩) 1 [y] := by
  refine ⟨Nat.le_refl _, by unfold maxLen; omega, fun _ => [.string y], fun _ => ⟨w.heap.size, 0, rfl, by simp, fun j hj i u hu => ?_⟩, fun i x hx => ?_⟩
  · simp at hj
    subst hj
    match i, hu with
    | 0, hu => cases hu; rw [(Blk.new w #[.string y] 9).cell]; rfl
    | i + 1, hu => simp at hu
  · match i, hx with
    | 0, hx => cases hx; exact ⟨rfl, hy⟩
    | i + 1, hx => simp at hx
theorem OwnT.len {w : World} {B n c : Nat} {ao : Option Addr} {l : List ByteArray} (h : OwnT w B (.slice ao n c) l) : n = l.length := by
  obtain ⟨_, _, e⟩ := own_slice h
  cases e
  rfl
set_option maxRecDepth 8000 in
set_option maxHeartbeats 4000000 in
theorem first_any (w : World) (cls nm ds : ByteArray) (st nat : Bool) (stk loc : Int) (o1 o2 o3 : Option Addr) (m1 c1 m2 c2 m3 c3 : Nat) (hc : cls.size ≤ 1073741824) (hd : ds.size ≤ 9223372036854775807) :
    Calls Tryz.prog 12 #[.string cls, .agg #[.string nm, .string ds, .bool st, .bool nat, .int .i64 stk, .int .i64 loc, .slice o1 m1 c1, .slice o2 m2 c2, .slice o3 m3 c3]] w (FirstQ w (firstZ cls ds st loc)) := by
  have B1 := balloc w (.cells #[.string nm, .string ds, .bool st, .bool nat, .int .i64 stk, .int .i64 loc, .slice o1 m1 c1, .slice o2 m2 c2, .slice o3 m3 c3] 30)
  have X1 := Blk.new w #[.string nm, .string ds, .bool st, .bool nat, .int .i64 stk, .int .i64 loc, .slice o1 m1 c1, .slice o2 m2 c2, .slice o3 m3 c3] 30
  have HM := D.hidIt (method_any ds (w.alloc (.cells #[.string nm, .string ds, .bool st, .bool nat, .int .i64 stk, .int .i64 loc, .slice o1 m1 c1, .slice o2 m2 c2, .slice o3 m3 c3] 30)) hd)
  go_enter Tryz.func12, Tryz.ntmps12
  go_wp2_with fail
  generalize w.alloc (.cells #[.string nm, .string ds, .bool st, .bool nat, .int .i64 stk, .int .i64 loc, .slice o1 m1 c1, .slice o2 m2 c2, .slice o3 m3 c3] 30) = X at *
  refine HM.out.mono ?_
  rintro e w1 ⟨b1, hans⟩
  have X2 := X1.below b1
  have B2 := B1.trans (b1.mono B1.size)
  have hB2 := B2.size
  have hB1 := B1.size
  cases hm : meth ds.data.toList with
  | none =>
    have e1 := ans_none hans hm
    subst e1
    have hz : Hid (firstZ cls ds st loc = (none, 13)) := by show _ = _; unfold firstZ; rw [hm]
    clear hans HM hm
    go_wp2_with fail
    go_ret2
    rw [hz.out]
    exact ⟨_, rfl, B2, rfl⟩
  | some pr =>
    obtain ⟨ps, r⟩ := pr
    obtain ⟨v1, e1, ow1⟩ := ans_some hans hm
    subst e1
    have hps : ps.length ≤ 8 := (meth_inv hm).2.2.1
    have ow1' := own_of_scells ow1
    have hXw := b1.size
    have hX0 := X1.lt
    obtain ⟨a1, p1, rfl⟩ := own_slice ow1
    have HO1 := D.hidIt ow1'
    have x2 := X2.cell 2
    have x5 := X2.cell 5
    simp at x2 x5
    have hz : Hid (firstZ cls ds st loc = if ((giv st cls ps).length : Int) > loc ∨ loc > 16 then (none, 19) else (some (giv st cls ps ++ List.replicate (loc.toNat - (giv st cls ps).length) quest), 0)) := by show _ = _; unfold firstZ; rw [hm]
    have X2h := D.hidIt X2
    have B2h := D.hidIt B2
    clear hans HM hm ow1 ow1' X2 B2 X1 B1 b1
    generalize firstZ cls ds st loc = Z at *
    have key : ∃ G, G = giv st cls ps := ⟨_, rfl⟩
    obtain ⟨G, hG⟩ := key
    have hGl : G.length ≤ 9 := by
      rw [hG]
      unfold giv
      split <;> simp <;> omega
    rw [← hG] at hz
    have HG := D.hidIt hG
    clear hG
    have hXB : Hid (X.heap.size ≤ w1.heap.size) := hXw
    cases st
    case' true =>
      have HOG : Hid (OwnT w1 X.heap.size (.slice a1 ps.length p1) G) := by rw [HG.out]; exact HO1.out
      have hLG : ps.length = G.length := by rw [HG.out]; simp [giv]
      rw [hLG] at HOG ⊢
      clear hLG
      have HBG : Hid (Below X.heap.size w1 w1) := Below.refl _ _
      obtain ⟨W, hW⟩ : ∃ W, W = w1 := ⟨_, rfl⟩
      obtain ⟨aG, haG⟩ : ∃ a, a = a1 := ⟨_, rfl⟩
      obtain ⟨pG, hpG⟩ : ∃ a, a = p1 := ⟨_, rfl⟩
      have X3h := X2h
      have B3h := B2h
      go_upto_region 6 with (fail)
      clear x2 x5 HO1 X2h B2h
      subst hpG haG hW
    case' false =>
      have HR := D.hidIt (ref_any cls w1 hc)
      have HI := D.hidIt (insert0 w1 X.heap.size _ _ (str (76 :: (cls.data.toList ++ [59]))) HO1.out hXB.out (by simp; omega))
      go_upto_region 6 with (first
        | (go_at_call 54; refine HR.out.mono ?_; rintro e w' ⟨rfl, hww⟩; cases hww)
        | (go_at_call 53; refine HI.out.mono ?_; rintro e W ⟨v3, rfl, ow3, b3⟩; have HO3 := D.hidIt ow3; have HB3 := D.hidIt b3; clear ow3 b3))
      have HOG0 : Hid (OwnT W X.heap.size v3 G) := by rw [HG.out]; exact HO3.out
      obtain ⟨aG, pG, e3⟩ := own_slice HOG0.out
      subst e3
      have HOG := D.hidIt HOG0.out
      have X3h := D.hidIt (show Blk W _ _ _ from (HB3.out.block _ (by omega)).trans X2h.out)
      have B3h := D.hidIt (B2h.out.trans (HB3.out.mono (show w.heap.size ≤ X.heap.size by omega)))
      have hXB := D.hidIt (Nat.le_trans hXB.out HB3.out.size)
      clear x2 x5 HO1 X2h B2h HR HI HO3 HB3 HOG0
    all_goals
      have x5 := X3h.out.cell 5
      simp at x5
      clear hps
      by_cases hA : (G.length : Int) > loc
      · rw [if_pos (.inl hA)] at hz
        go_wp2_with fail
        go_ret2
        rw [hz.out]
        exact ⟨_, rfl, B3h.out, rfl⟩
      by_cases hB : loc > 16
      · rw [if_pos (.inr hB)] at hz
        go_wp2_with fail
        go_ret2
        rw [hz.out]
        exact ⟨_, rfl, B3h.out, rfl⟩
      rw [if_neg (by omega)] at hz
      obtain ⟨L, rfl⟩ : ∃ L : Nat, loc = (L : Int) := ⟨loc.toNat, by omega⟩
      have hLi : (G.length : Int) ≤ (L : Int) := by omega
      have hL16 : (L : Int) ≤ 16 := by omega
      have hS0 := D.hidIt HOG.out
      go_wp2_with fail
      go_loopw [6] (fun gv wr => ∃ (k : Nat) (a : Option Addr) (p : Nat), gv = .slice a (G.length + k) p ∧ G.length + k ≤ L ∧ OwnT wr X.heap.size (.slice a (G.length + k) p) (G ++ List.replicate k quest) ∧ Below X.heap.size W wr) (fun gv _ => L - sliceLen gv)
      case atStart => exact ⟨0, aG, pG, rfl, by omega, by simpa using HOG.out, Below.refl _ _⟩
      case round =>
        obtain ⟨k, a, p, rfl, hk, ho, hb⟩ := hrel
        have HO := D.hidIt ho
        have HB := D.hidIt hb
        have hz1 := hb.size
        have x5 := (show Blk wr _ _ _ from (hb.block _ (by have := hXB.out; omega)).trans X3h.out).cell 5
        simp at x5
        clear ho hb
        by_cases hlt : G.length + k < L
        · have hlt' : ((G.length + k : Nat) : Int) < (L : Int) := by omega
          have hlt2 : (G.length : Int) + (k : Int) < (L : Int) := by omega
          have HO2 := D.hidIt (HO.out.below (balloc wr (.cells #[.string ⟨#[63]⟩] 9)))
          have HL2 := D.hidIt (laid1 wr ⟨#[63]⟩ (by decide))
          have hsz2 : X.heap.size ≤ (wr.alloc (.cells #[.string ⟨#[63]⟩] 9)).heap.size := by simp; have := hXB.out; omega
          have hlen : (G ++ List.replicate k quest).length = G.length + k := by simp
          generalize hGk : G.length + k = n at *
          have HGk := D.hidIt hGk
          have HLen := D.hidIt hlen
          clear hGk hlen
          go_wp2_with (at_builtin; refine wpList_sappend rfl _ _ rfl X.heap.size _ _ [⟨#[63]⟩] _ 1 HO2.out rfl rfl HL2.out (by rw [HLen.out]; simp; omega) hsz2 ?_; intro v3 w3 ho3 _ hb3; have HO3 := D.hidIt ho3; have HB3 := D.hidIt (HB.out.trans (((Below.refl _ wr).alloc (Nat.le_trans hXB.out hz1) _).trans hb3)); obtain ⟨a3, p3, e3⟩ := own_slice ho3; subst e3; clear ho3 hb3)
          have hGk := HGk.out
          have e : (G ++ List.replicate k quest ++ [ByteArray.mk #[63]]).length = G.length + (k + 1) := by simp
          go_roundw
          · refine ⟨k + 1, a3, p3, rfl, by omega, ?_, HB3.out⟩
            rw [← e, List.replicate_succ', ← List.append_assoc]
            exact HO3.out
          · simp only [sliceLen]; omega
        · have hlt' : ¬ ((G.length + k : Nat) : Int) < (L : Int) := by omega
          have hlt2 : ¬ (G.length : Int) + (k : Int) < (L : Int) := by omega
          go_wp2_with fail
          go_ret2
          rw [hz.out]
          refine ⟨_, rfl, B3h.out.trans (HB.out.mono hB1), ?_⟩
          have e : ((L : Int).toNat - G.length) = k := by omega
          simp only [e]
          exact HO.out.mono hB1
end Go.Proofs.YtccbgdbipihoaaaGreat.Fr
namespace Go.Proofs.YtccbgdbipihoaaaGreat.Q
open Go.RowKit D
theorem cell_row {w : World} {b : Nat} {cur : Array Value} {T : TypeId} (hg : w.heap[b]? = some (.cells cur T (0, 0))) (j : Nat) {u : Value} (h : cur[j]? = some u) : w.cell? ⟨b, j, none⟩ = some u := by
  rw [cell_of_row _ _ _ _ T (0, 0) hg]; exact h



set_option maxRecDepth 8000 in
set_option maxHeartbeats 2000000 in
theorem same_texts (l : List ByteArray) (o1 : Option Addr) (c1 : Nat) (o2 : Option Addr) (c2 : Nat) (w : World) (h1 : LAt 1 TextR w o1 c1 l) (h2 : LAt 1 TextR w o2 c2 l) :
    Calls Tryz.prog 63 #[.slice o1 l.length c1, .slice o2 l.length c2] w fun e w' => e = .returned (.bool true) ∧ ∃ q, w' = w.drewN q := by
  have hbig := h1.big
  have R1 : Hid (∀ (j : Nat) (x : ByteArray), l[j]? = some x → ∃ b off, o1 = some ⟨b, off, none⟩ ∧ w.cell? ⟨b, off + j, none⟩ = some (.string x)) := fun j x hx => by
    obtain ⟨b, off, r, e, ⟨rfl, _⟩, hc⟩ := h1.row hx
    exact ⟨b, off, e, by simpa using hc 0 _ rfl⟩
  have R2 : Hid (∀ (j : Nat) (x : ByteArray), l[j]? = some x → ∃ b off, o2 = some ⟨b, off, none⟩ ∧ w.cell? ⟨b, off + j, none⟩ = some (.string x)) := fun j x hx => by
    obtain ⟨b, off, r, e, ⟨rfl, _⟩, hc⟩ := h2.row hx
    exact ⟨b, off, e, by simpa using hc 0 _ rfl⟩
  clear h1 h2
  generalize hn : l.length = n at *
  have HN := D.hidIt hn
  clear hn
  go_enter Tryz.func63, Tryz.ntmps63
  go_wp2
  go_loopw [5] (fun i wr => ∃ k q : Nat, k ≤ n ∧ i = .int .i64 (k : Int) ∧ wr = w.drewN q) (fun i _ => n - (intOf i).toNat)
  case atStart => exact ⟨0, 0, by omega, rfl, rfl⟩
  case round =>
    obtain ⟨k, q, hk, rfl, rfl⟩ := hrel
    by_cases hlt : k < n
    · have h1 : (k : Int) < (n : Int) := by omega
      obtain ⟨x, hx⟩ : ∃ x, l[k]? = some x := ⟨_, List.getElem?_eq_getElem (by rw [HN.out]; exact hlt)⟩
      obtain ⟨b, off, rfl, e1⟩ := R1.out k x hx
      obtain ⟨b', off', rfl, e2⟩ := R2.out k x hx
      clear hx R1 R2
      go_wp2
      go_quiet (fail)
      go_wp2
      exact ⟨⟨k + 1, _, by omega, by go_num, rfl⟩, by simp [intOf]; omega⟩
    · have h1 : ¬ (k : Int) < (n : Int) := by omega
      go_wp2
      go_ret
      exact ⟨rfl, q, rfl⟩
set_option maxRecDepth 8000 in
set_option maxHeartbeats 2000000 in
theorem same_frame (f : RD) (r r' : List Value) (w : World) (h : FrameR w r f) (h' : FrameR w r' f) :
    Calls Tryz.prog 26 #[.agg r.toArray, .agg r'.toArray] w fun e w' => e = .returned (.bool true) ∧ Below w.heap.size w w' := by
  obtain ⟨o1, c1, o2, c2, rfl, k1, k2⟩ := h
  obtain ⟨p1, d1, p2, d2, rfl, m1, m2⟩ := h'
  have B0 := D.hidIt (next (balloc w (.cells #[.int .i64 f.aT, .slice o1 f.loc.length c1, .slice o2 f.stk.length c2] 25)) (balloc _ (.cells #[.int .i64 f.aT, .slice p1 f.loc.length d1, .slice p2 f.stk.length d2] 25)))
  have g1 := fun W (hW : Below w.heap.size w W) => D.hidIt (same_texts f.loc o1 c1 p1 d1 W (k1.below hW (fun _ _ h => h)) (m1.below hW (fun _ _ h => h)))
  have g2 := fun W (hW : Below w.heap.size w W) => D.hidIt (same_texts f.stk o2 c2 p2 d2 W (k2.below hW (fun _ _ h => h)) (m2.below hW (fun _ _ h => h)))
  clear k1 k2 m1 m2
  generalize f.loc.length = n1 at *
  generalize f.stk.length = n2 at *
  generalize f.aT = at_ at *
  go_enter Tryz.func26, Tryz.ntmps26
  go_wp2_with fail
  refine (g1 _ B0.out).out.mono ?_
  rintro e w1 ⟨rfl, q1, rfl⟩
  go_wp2_with fail
  refine (g2 _ (below_drewN B0.out q1)).out.mono ?_
  rintro e w2 ⟨rfl, q2, rfl⟩
  have B2 := D.hidIt (below_drewN B0.out (q1 + q2))
  clear g1 g2 B0
  go_wp2
  go_ret
  exact ⟨rfl, B2.out⟩

end Go.Proofs.YtccbgdbipihoaaaGreat.Q
namespace Go.Proofs.YtccbgdbipihoaaaGreat.Fr
open Go.RowKit Q Q.D K

theorem FirstQ.no {w w' : World} {e : Ending} {k : Int} (h : FirstQ w (none, k) e w') : e = .returned (.tuple #[.slice none 0 0, .int .i64 k]) ∧ Below w.heap.size w w' := by
  obtain ⟨v, rfl, b, hv⟩ := h
  simp only at hv
  subst hv
  exact ⟨rfl, b⟩
theorem FirstQ.yes {w w' : World} {e : Ending} {l : List ByteArray} {k : Int} (h : FirstQ w (some l, k) e w') (hs : ∀ s ∈ l, s.size ≤ 9223372036854775807) : ∃ ao c, e = .returned (.tuple #[.slice ao l.length c, .int .i64 k]) ∧ LAt 1 TextR w' ao c l ∧ Below w.heap.size w w' := by
  obtain ⟨v, rfl, b, hv⟩ := h
  simp only at hv
  obtain ⟨ao, c, rfl, hl⟩ := hv.at hs
  exact ⟨ao, c, rfl, hl, b⟩
theorem laids (w : World) (l : List ByteArray) (hl : ∀ s ∈ l, s.size ≤ 9223372036854775807) (hn : l.length ≤ 1000) : LAt 1 TextR (w.alloc (.cells (l.map Value.string).toArray 9)) (some ⟨w.heap.size, 0, none⟩) l.length l := by
  refine ⟨Nat.le_refl _, by unfold maxLen; omega, fun j => [.string (l.getD j ⟨#[]⟩)], fun _ => ⟨w.heap.size, 0, rfl, by simp, fun j hj i u hu => ?_⟩, fun i x hx => ?_⟩
  · match i, hu with
    | 0, hu =>
      cases hu
      rw [(Blk.new w _ 9).cell]
      simp [List.getD_eq_getElem?_getD, hj]
    | i + 1, hu => simp at hu
  · exact ⟨by simp only [List.getD_eq_getElem?_getD, hx]; rfl, hl x (List.mem_of_getElem? hx)⟩
theorem zero_view (w : World) : FrV w zeroF ⟨0, [], []⟩ := ⟨none, 0, none, 0, rfl, LAt.nil _ _ _ _ _ (by unfold maxLen; omega), LAt.nil _ _ _ _ _ (by unfold maxLen; omega)⟩
theorem z_known : firstZ ⟨#[65]⟩ ⟨#[40, 73, 41, 86]⟩ false 3 = (some [⟨#[76, 65, 59]⟩, ⟨#[73]⟩, ⟨#[63]⟩], 0) := by kernel_rfl
theorem boxed (W : World) (row : Array Value) : Blk ((W.alloc (.cells #[.int .i64 0, .slice none 0 0, .slice none 0 0] 25)).setRow W.heap.size row) W.heap.size row 25 ∧ Below W.heap.size W ((W.alloc (.cells #[.int .i64 0, .slice none 0 0, .slice none 0 0] 25)).setRow W.heap.size row) :=
  ⟨setRow_heap _ _ _ _ _ _ (Blk.new W _ _), below_setRow (balloc W _) (Nat.le_refl _) _⟩
set_option maxRecDepth 8000 in
set_option maxHeartbeats 2000000 in
theorem known_any (w : World) : Calls Tryz.prog 27 #[] w fun e w' => e = .returned (.bool true) ∧ Below w.heap.size w w' := by
  have GF := D.hidIt (fun W => first_any W ⟨#[65]⟩ ⟨#[]⟩ ⟨#[40, 73, 41, 86]⟩ false false 0 3 none none none 0 0 0 0 0 0 (by decide) (by decide))
  rw [z_known] at GF
  go_enter Tryz.func27, Tryz.ntmps27
  go_upto_region 2 with (first | (go_at_call 12; refine (GF.out _).mono ?_; intro e w1 hq; obtain ⟨a1, p1, rfl, hl1, b1⟩ := FirstQ.yes hq (by decide)))
  clear hq
  have HL1 := D.hidIt hl1
  have GP := D.hidIt (pop_no w1 zeroF _ (zero_view w1) 1 (by simp))
  unfold zeroF at GP
  clear hl1 GF
  go_upto_region 3 with (first | (go_at_call 20; refine GP.out.mono ?_; rintro e w2 ⟨rfl, b2⟩) | (refine wpList_store_row rfl 25 _ _ rfl w2.heap.size #[.int .i64 0, .slice none 0 0, .slice none 0 0] rfl rfl 25 _ (Blk.new w2 _ _) (by kernel_rfl) rfl (by simp [Value.oneCell']) ?_))
  obtain ⟨_, b3⟩ := boxed w2 #[.int .i64 0, .slice none 0 0, .slice none 0 0]
  have HB3 := D.hidIt (b1.trans (((b2.trans (b3.mono b2.size))).mono b1.size))
  have HL3 := D.hidIt ((HL1.out.below b2 (fun _ _ h => h)).below b3 (fun _ _ h => h))
  clear GP HL1 b1 b2 b3
  generalize (w2.alloc (.cells #[.int .i64 0, .slice none 0 0, .slice none 0 0] 25)).setRow w2.heap.size #[.int .i64 0, .slice none 0 0, .slice none 0 0] = w3 at *
  have hv : FrV (w3.alloc (.cells #[.string ⟨#[73]⟩] 9)) (.agg #[.int .i64 0, .slice (some ⟨w3.heap.size, 0, none⟩) 1 1, .slice none 0 0]) ⟨0, [⟨#[73]⟩], []⟩ := ⟨_, _, _, _, rfl, laid1 w3 _ (by decide), LAt.nil _ _ _ _ _ (by unfold maxLen; omega)⟩
  have GS := D.hidIt (set_no _ _ _ hv 1 ⟨#[73]⟩ (.inr (by decide)))
  have b4 := balloc w3 (.cells #[.string ⟨#[73]⟩] 9)
  unfold zeroF at GS
  clear hv
  go_upto_region 4 with (first | (go_at_call 24; refine GS.out.mono ?_; rintro e w5 ⟨rfl, b5⟩) | (refine wpList_store_row rfl 25 _ _ rfl w5.heap.size #[.int .i64 0, .slice none 0 0, .slice none 0 0] rfl rfl 25 _ (Blk.new w5 _ _) (by kernel_rfl) rfl (by simp [Value.oneCell']) ?_))
  obtain ⟨_, b6⟩ := boxed w5 #[.int .i64 0, .slice none 0 0, .slice none 0 0]
  have b7 := (b4.trans (b5.mono b4.size)).trans (b6.mono (Nat.le_trans b4.size b5.size))
  have HB6 := D.hidIt (HB3.out.trans (b7.mono HB3.out.size))
  have HL6 := D.hidIt (HL3.out.below b7 (fun _ _ h => h))
  clear GS HL3 HB3 b4 b5 b6 b7
  generalize (w5.alloc (.cells #[.int .i64 0, .slice none 0 0, .slice none 0 0] 25)).setRow w5.heap.size #[.int .i64 0, .slice none 0 0, .slice none 0 0] = w6 at *
  have HSM := D.hidIt (same_any a1 p1 _ _ _ _ (HL6.out.below (balloc w6 (.cells ([⟨#[76, 65, 59]⟩, ⟨#[73]⟩, ⟨#[63]⟩].map Value.string).toArray 9)) (fun _ _ h => h)) (laids w6 _ (by decide) (by decide)))
  simp only [List.length_cons, List.length_nil, List.map_cons, List.map_nil] at HSM
  have b8 := balloc w6 (.cells #[.string ⟨#[76, 65, 59]⟩, .string ⟨#[73]⟩, .string ⟨#[63]⟩] 9)
  go_wp2_with (first | (go_at_call 14; refine HSM.out.mono ?_; rintro e w9 ⟨rfl, b9⟩))
  go_ret
  exact ⟨rfl, HB6.out.trans ((b8.trans (b9.mono b8.size)).mono HB6.out.size)⟩
end Go.Proofs.YtccbgdbipihoaaaGreat.Fr
namespace Go.Proofs.YtccbgdbipihoaaaGreat.Fr
open Go.RowKit Q Q.D K T

structure BackI (n0 pk mb : Nat) (v : Value) (w wm : World) (g : Nat) (cells : Array Value) (vv : Value) (RR : List Mem) (wr : World) : Prop where
  ko : KinO n0 wr pk mb vv RR
  wf : KWf (RR.map Mem.k)
  sm : ∀ m ∈ RR, KSm m.k
  len : RR.length ≤ 32
  sz : wm.heap.size ≤ wr.heap.size
  off : ∀ b, offX pk mb v wm.heap.size b = true → wr.heap[b]? = wm.heap[b]?
  own : ∀ g, vv.ownBlock = some g → offX pk mb v wm.heap.size g = false
  row : wr.heap[g]? = some (.cells cells 43 (0, 0))
  b : Below n0 w wr
theorem BackI.below {n0 pk mb g : Nat} {v : Value} {w wm : World} {cells : Array Value} {vv : Value} {RR : List Mem} {wr w' : World} (h : BackI n0 pk mb v w wm g cells vv RR wr) (hb : Below wr.heap.size wr w') : BackI n0 pk mb v w wm g cells vv RR w' := by
  have hn : n0 ≤ wr.heap.size := by have := h.ko.hpk; have := h.ko.box.lt; omega
  exact ⟨h.ko.below hb, h.wf, h.sm, h.len, Nat.le_trans h.sz hb.size, fun b hx => (hb.block b (by have := (offX_iff.1 hx).2; have := h.sz; omega)).trans (h.off b hx), h.own, (hb.block g (Array.getElem?_eq_some_iff.1 h.row).1).trans h.row, h.b.trans (hb.mono hn)⟩
theorem BackI.add {n0 pk mb g : Nat} {v : Value} {w wm : World} {cells : Array Value} {vv v' : Value} {RR : List Mem} {wr w' : World} {k : KD} {b : Nat} (h : BackI n0 pk mb v w wm g cells vv RR wr) (hz : refZ RR k = 0) (hK : KinO n0 w' pk mb v' (⟨k, b⟩ :: RR)) (st : KStep pk mb vv wr w') (hown : ∀ g, v'.ownBlock = some g → vv.ownBlock = some g ∨ wr.heap.size ≤ g) : BackI n0 pk mb v w wm g cells v' (⟨k, b⟩ :: RR) w' := by
  have hz' := hz
  rw [refZ_k] at hz'
  refine ⟨hK, h.wf.add hz', fun m hm => ?_, by have := (kref_ok hz').2.1; simp at this ⊢; omega, Nat.le_trans h.sz st.size, fun b' hx => ?_, fun g hg => ?_, step_same_k h.ko st (by decide) (by decide) g _ h.row, h.b.trans (KStep.below h.ko st)⟩
  · rcases List.mem_cons.1 hm with rfl | hm
    · exact small_of_right (refZ_zero hz).1
    · exact h.sm m hm
  · have hx' := offX_iff.1 hx
    have := h.sz
    rw [st.block b' (by omega) hx'.1.1 hx'.1.2.1 (fun e => by have := h.own b' e; rw [hx] at this; cases this)]
    exact h.off b' hx
  · rcases hown g hg with e | e
    · exact h.own g e
    · rw [Bool.eq_false_iff]
      intro hx
      have := (offX_iff.1 hx).2
      have := h.sz
      omega
theorem cells4 {cA cB cT cC : Array Value} (a : cA.size = 5) (b : cB.size = 5) (c : cT.size = 5) (i : Nat) (hi : i < 4) : ∃ r, (r = cA ∨ r = cB ∨ r = cT ∨ r = cC) ∧ ∀ t, t < 5 → (cA ++ cB ++ cT ++ cC)[i * 5 + t]? = r[t]? := by
  match i, hi with
  | 0, _ => exact ⟨cA, .inl rfl, fun t ht => by rw [Array.getElem?_append_left (by simp; omega), Array.getElem?_append_left (by simp; omega), Array.getElem?_append_left (by omega)]; congr 1; omega⟩
  | 1, _ => exact ⟨cB, .inr (.inl rfl), fun t ht => by rw [Array.getElem?_append_left (by simp; omega), Array.getElem?_append_left (by simp; omega), Array.getElem?_append_right (by omega)]; congr 1; omega⟩
  | 2, _ => exact ⟨cT, .inr (.inr (.inl rfl)), fun t ht => by rw [Array.getElem?_append_left (by simp; omega), Array.getElem?_append_right (by simp; omega)]; congr 1; simp; omega⟩
  | 3, _ => exact ⟨cC, .inr (.inr (.inr rfl)), fun t ht => by rw [Array.getElem?_append_right (by simp; omega)]; congr 1; simp; omega⟩
theorem maked_asked {n0 : Nat} {w : World} {r : Array Value} (h : Maked w r) : Asked n0 w r := by
  have h' := h
  obtain ⟨b, nm, sup, fs, pool, ms, hc, _⟩ := h'
  obtain ⟨h1, h2⟩ := clies_cells hc
  exact ⟨h1, h2, .inr h⟩
theorem made_rows {w w' : World} {e : Ending} (h : M.ClassesQ w e w') : ∃ g cA cB cT cC, e = .returned (.slice (some ⟨g, 0, none⟩) 4 4) ∧ w.heap.size ≤ g ∧ w'.heap[g]? = some (.cells (cA ++ cB ++ cT ++ cC) 43 (0, 0)) ∧ Below w.heap.size w w' ∧ (Maked w' cA ∧ Maked w' cB ∧ Maked w' cT ∧ Maked w' cC) := by
  obtain ⟨g, cA, cB, cT, cC, σa, ob, σt, σm, σc, hI, rfl, hg, hrow, hb, k1, k2, k3, k4⟩ := h
  exact ⟨g, cA, cB, cT, cC, rfl, hg, hrow, hb, ⟨_, _, _, _, _, _, k1, by decide, by decide, by decide, by decide⟩, ⟨_, _, _, _, _, _, k2, by decide, by decide, by decide, by decide⟩, ⟨_, _, _, _, _, _, k3, by decide, by decide, by decide, by decide⟩, ⟨_, _, _, _, _, _, k4, by decide, by decide, by decide, by decide⟩⟩
theorem BackI.start {w0 w1 w2 : World} {pk mb g : Nat} {v : Value} {R : List Mem} {cells : Array Value} (KO : KinO w0.heap.size w1 pk mb v R) (hR : R.reverse.map Mem.k = givenK) (B1 : Below w0.heap.size w0 w1) (b2 : Below w1.heap.size w1 w2) (hrow : w2.heap[g]? = some (.cells cells 43 (0, 0))) : BackI w0.heap.size pk mb v w0 w2 g cells v R w2 := by
  have hR' : R.map Mem.k = givenK.reverse := by rw [← hR, List.map_reverse, List.reverse_reverse]
  exact ⟨KO.below b2, by rw [hR']; exact kwf_given, small_of_k hR' (fun k hk => given_small k (by simpa using hk)), by have := congrArg List.length hR'; rw [List.length_map] at this; rw [this]; decide, Nat.le_refl _, fun b hx => rfl, fun g hg => by
    rw [Bool.eq_false_iff]
    intro hx
    exact (offX_iff.1 hx).1.2.2 hg, hrow, B1.trans (b2.mono B1.size)⟩
theorem pop_lit {w w' : World} {f : RD} {K : Nat} {e : Ending} (h : PopQ w f K e w') (hs : (∀ s ∈ f.loc, s.size ≤ 9223372036854775807) ∧ ∀ s ∈ f.stk, s.size ≤ 9223372036854775807) :
    ∃ o1 c1 o2 c2 o3 c3, e = .returned (.tuple #[.agg #[.int .i64 f.aT, .slice o1 f.loc.length c1, .slice o2 (f.stk.take K).length c2], .slice o3 (f.stk.drop K).length c3, .int .i64 0]) ∧ LAt 1 TextR w' o1 c1 f.loc ∧ LAt 1 TextR w' o2 c2 (f.stk.take K) ∧ LAt 1 TextR w' o3 c3 (f.stk.drop K) ∧ Below w.heap.size w w' := by
  obtain ⟨v, vp, M, rfl, hf, _, ho, _, b⟩ := h
  obtain ⟨o1, c1, o2, c2, rfl, k1, k2⟩ := hf.view hs.1 (fun s h => hs.2 s (List.mem_of_mem_take h))
  obtain ⟨o3, c3, rfl, k3⟩ := ho.at (fun s h => hs.2 s (List.mem_of_mem_drop h))
  exact ⟨o1, c1, o2, c2, o3, c3, rfl, k1, k2, k3, b⟩
theorem frame_row {w : World} {x : Int} {s1 s2 : Value} {f : RD} (h : FrV w (.agg #[.int .i64 x, s1, s2]) f) : FrameR w [.int .i64 x, s1, s2] f := by
  obtain ⟨o1, c1, o2, c2, e, h1, h2⟩ := h
  cases e
  exact ⟨o1, c1, o2, c2, rfl, h1, h2⟩
theorem set_small {l : List ByteArray} (h : ∀ s ∈ l, s.size ≤ 9223372036854775807) {n : Nat} : ∀ s ∈ l.set n (ByteArray.mk #[73]), s.size ≤ 9223372036854775807 := by
  intro s hs
  rcases List.mem_or_eq_of_mem_set hs with h' | rfl
  · exact h s h'
  · decide
theorem below_dn {B : Nat} {a b : World} (h : Below B a b) (q : Nat) : Below B a (b.drewN q) := ⟨h.os, h.tape, h.output, h.size, h.block⟩
end Go.Proofs.YtccbgdbipihoaaaGreat.Fr
