/- Texts FRa FRb TD TT. -/
import Derived.Test.YtccbgdbipihoaaaGreatBw26
import Derived.Lib.AppendZeros
import Derived.Test.YtccbgdbipihoaaaGreatBw32
import Derived.Test.YtccbgdbipihoaaaGreatBw22
import Derived.Test.YtccbgdbipihoaaaGreatBw34
namespace Go.Proofs.YtccbgdbipihoaaaGreat.Fr
open Go.RowKit Q Q.D K

def tx (l : List ByteArray) : List Value := l.map Value.string
theorem tx_app (a b : List ByteArray) : tx (a ++ b) = tx a ++ tx b := by simp [tx]
theorem tx_len (a : List ByteArray) : (tx a).length = a.length := by simp [tx]
def OwnT (w : World) (B : Nat) (v : Value) (l : List ByteArray) : Prop := w.ownsRow B 9 1 v l.length (tx l)
theorem texts_flat (l : List ByteArray) : tx l = flatR (fun j => [.string (l.getD j ⟨#[]⟩)]) l.length := by
  refine List.ext_getElem? (fun y => ?_)
  have hk : ∀ j, j < l.length → ((fun j => [Value.string (l.getD j ⟨#[]⟩)]) j).length = 1 := fun j _ => rfl
  by_cases hy : y < l.length
  · have := flatR_at hk y hy 0 (by omega)
    rw [Nat.mul_one, Nat.add_zero] at this
    rw [this, List.getD_eq_getElem?_getD]
    simp [tx, hy]
  · rw [List.getElem?_eq_none (by simp [tx]; omega), List.getElem?_eq_none (by rw [flatR_len hk]; omega)]
theorem OwnT.at {w : World} {B : Nat} {v : Value} {l : List ByteArray} (h : OwnT w B v l) (hs : ∀ s ∈ l, s.size ≤ 9223372036854775807) : ∃ ao c, v = .slice ao l.length c ∧ LAt 1 TextR w ao c l := by
  unfold OwnT at h
  rw [texts_flat] at h
  obtain ⟨ao, c, rfl, l1, l2, hr⟩ := own_rows h (fun _ _ => rfl)
  refine ⟨ao, c, rfl, l1, l2, fun j => [.string (l.getD j ⟨#[]⟩)], RowsAt.ext hr (seen_ext _ _), fun i x hx => ⟨?_, hs x (List.mem_of_getElem? hx)⟩⟩
  simp only [List.getD_eq_getElem?_getD, hx]; rfl
theorem LAt.small {w : World} {ao : Option Addr} {c : Nat} {l : List ByteArray} (h : LAt 1 TextR w ao c l) : ∀ s ∈ l, s.size ≤ 9223372036854775807 := by
  intro s hs
  obtain ⟨_, _, _, _, k⟩ := h
  obtain ⟨i, hi⟩ := List.getElem?_of_mem hs
  exact (k i s hi).2
theorem LAt.cells {w : World} {a : Addr} {c : Nat} {l : List ByteArray} (h : LAt 1 TextR w (some a) c l) (j : Nat) (u : Value) (hj : (tx l)[j]? = some u) : w.cell? (a.add j) = some u := by
  obtain ⟨_, _, rows, hr, k⟩ := h
  have hj' : j < l.length := by have := (List.getElem?_eq_some_iff.1 hj).1; rwa [tx_len] at this
  obtain ⟨b, off, e, _, d⟩ := hr (by omega)
  cases e
  obtain ⟨x, hx⟩ : ∃ x, l[j]? = some x := ⟨_, List.getElem?_eq_getElem hj'⟩
  have hu : u = .string x := by
    simp only [tx, List.getElem?_map, hx] at hj
    exact (Option.some.inj hj).symm
  have := d j hj' 0 (.string x) (by rw [(k j x hx).1]; rfl)
  rw [Addr.add_lit, hu]
  simpa using this
theorem wpList_sappend {w : World} {ops : Array Oper} {rest : List Oper} {o : Oper} {a : Act} {Q : Exit → Act → World → Prop} (hgd : o.guard = none) (s x : Operand)
    (ho : o.op = .call { callee := .builtin .append, args := #[s, x], argTypes := #[23, 23] })
    (B : Nat) (v : Value) (l y : List ByteArray) (ao : Option Addr) (c : Nat) (hown : OwnT w B v l) (hs : a.eval s = v) (hx : a.eval x = .slice ao y.length c) (hy : LAt 1 TextR w ao c y)
    (hlen : l.length + y.length ≤ 8796093022200) (hB : B ≤ w.heap.size)
    (h : ∀ v' w', OwnT w' B v' (l ++ y) → w.grownBy w' v.ownBlock → Below B w w' → wpList Tryz.prog ops Q rest (a.put o.dst v') w') :
    wpList Tryz.prog ops Q (o :: rest) a w := by
  obtain ⟨i0, hi, hz0, hz1, hz2⟩ := info_parts infoS
  refine wpList_plain hgd fun K hK => ?_
  have key : ∃ v' w', (Builtin.append_ #[23, 23] o.type #[v, .slice ao y.length c]).run Tryz.prog w = .ok v' w' ∧ OwnT w' B v' (l ++ y) ∧ w.grownBy w' v.ownBlock := by
    cases ao with
    | none =>
      obtain rfl : y = [] := by
        obtain ⟨_, _, _, hr, _⟩ := hy
        rcases Nat.eq_zero_or_pos y.length with e | e
        · exact List.length_eq_zero_iff.1 e
        · obtain ⟨_, _, e, _⟩ := hr e; cases e
      refine ⟨v, w, ?_, by simpa using hown, World.grownBy.refl _ _⟩
      rcases hown.2 with ⟨rfl, e0⟩ | ⟨g, cap, cur, rfl, hbg, hg, hnc, hcm, hcs, htake⟩
      · have : l = [] := List.length_eq_zero_iff.1 e0
        subst this
        simp [Builtin.append_, run_underlying Tryz.underlying23, sizeOf, typeInfo, hi, Builtin.lenOf, Builtin.firstCells]
      · simp [Builtin.append_, run_underlying Tryz.underlying23, sizeOf, typeInfo, hi, Builtin.lenOf, Builtin.firstCells, loadCells, hnc, storeCells]
    | some a1 =>
      obtain ⟨v', w', hr, h2, h3, _, _⟩ := run_append_own_at (P := Tryz.prog) w B 23 o.type 9 i0 (.string ⟨#[]⟩) 1 16 Tryz.underlying23 hi hz0 hz1 hz2 rfl (by decide) v l.length (tx l) hown a1 y.length c (tx y) (by rw [tx_len, Nat.mul_one])
        (LAt.cells hy) (fun u hu => by simp only [tx, List.mem_map] at hu; obtain ⟨z, _, rfl⟩ := hu; rfl) (by unfold maxLen; omega) (by omega) hB
      exact ⟨v', w', hr, by unfold OwnT; rw [tx_app, List.length_append]; exact h2, h3⟩
  obtain ⟨v', w', hr, h2, h3⟩ := key
  unfold Oper.wp execOp
  simp only [ho, resolve, invoke, builtin, Sem.run_bind, Sem.run_pure, Result.andThen_ok, List.map_toArray, List.map_cons, List.map_nil, hs, hx, hr]
  exact hK _ _ (h v' w' h2 h3 ((Below.refl B w).grown h3 hB (fun k hk => (hown.lt k hk).1)))

theorem zc_len (n : Nat) : (Builtin.zeroCells (Value.string ⟨#[]⟩).cells n).size = n := by
  simp [Builtin.zeroCells, Value.cells]
set_option maxRecDepth 8000 in
set_option maxHeartbeats 1000000 in
theorem grow_nil (w : World) (n : Nat) (hn : n ≤ 8796093022200) :
    Calls Tryz.prog 106 #[.slice none 0 0, .int .i64 (n : Int)] w fun e w' => ∃ v, e = .returned v ∧ OwnT w' w.heap.size v [] ∧ Below w.heap.size w w' := by
  have hn0 : ¬ (n : Int) < 0 := by omega
  rcases Nat.eq_zero_or_pos n with rfl | hp
  · go_enter Tryz.func106, Tryz.ntmps106
    go_wp2
    go_ret
    exact ⟨_, rfl, World.ownsRow_nil _ _ _ _, Below.refl _ _⟩
  · obtain ⟨i0, hi, hz0, hz1, hz2⟩ := info_parts infoS
    have hrun := fun ty => Lib.run_append_nil_zeros (P := Tryz.prog) w 23 3 ty 9 i0 (.string ⟨#[]⟩) .i64 .i64 Tryz.underlying23 Tryz.underlying3 hi hz0 n hp (by omega) (by omega) (by rw [hz2]; omega)
    have hG : n ≤ grownCap w n 0 9 := grownCap_ge w _ _ _
    have hG2 := grownCap_le_maxLen w n 0 9 (by unfold maxLen; omega)
    have hG63 : grownCap w n 0 9 ≤ 9223372036854775807 := by unfold maxLen at hG2; omega
    have hp' : (n : Int) > 0 := by omega
    generalize grownCap w n 0 9 = G at *
    go_enter Tryz.func106, Tryz.ntmps106
    go_wp2_with (at_builtin; refine Lib.wpList_append_run _ rfl _ _ _ _ rfl _ _ rfl rfl _ _ (hrun _) ?_)
    go_ret
    refine ⟨_, rfl, ⟨by simp [tx], .inr ⟨w.heap.size, G, Builtin.zeroCells #[Value.string ⟨#[]⟩] n ++ Builtin.zeroCells #[Value.string ⟨#[]⟩] (G - n), rfl, Nat.le_refl _, ?_, Nat.zero_le _, hG2, ?_, by simp [tx]⟩⟩, ?_⟩
    · exact heap_alloc_new w _
    · have h1 := zc_len n
      have h2 := zc_len (G - n)
      rw [show (Value.string ⟨#[]⟩).cells = #[Value.string ⟨#[]⟩] from rfl] at h1 h2
      rw [Array.size_append, h1, h2]; omega
    · exact ((Below.refl _ _).alloc (Nat.le_refl _) _).drew

def TextsR (w : World) (r : List Value) (y : List ByteArray) : Prop := ∃ o c, r = [.slice o y.length c] ∧ LAt 1 TextR w o c y
theorem TextsR.below {w w' : World} (hb : Below w.heap.size w w') (r : List Value) (y : List ByteArray) (h : TextsR w r y) : TextsR w' r y := by
  obtain ⟨o, c, e, h⟩ := h
  exact ⟨o, c, e, h.below hb (fun _ _ h => h)⟩
theorem take_flat (ls : List (List ByteArray)) (i : Nat) (y : List ByteArray) (h : ls[i]? = some y) : (ls.take (i + 1)).flatten = (ls.take i).flatten ++ y := by
  rw [List.take_add_one, h, List.flatten_append]; simp
theorem take_len (ls : List (List ByteArray)) (i : Nat) : (ls.take i).flatten.length ≤ ls.flatten.length := by
  have h : ls.flatten = (ls.take i).flatten ++ (ls.drop i).flatten := by rw [← List.flatten_append, List.take_append_drop]
  rw [h, List.length_append]; omega
set_option maxRecDepth 8000 in
set_option maxHeartbeats 2000000 in
theorem concat_any (w : World) (ao : Option Addr) (c : Nat) (ls : List (List ByteArray)) (h : LAt 1 TextsR w ao c ls) (ht : ls.flatten.length ≤ 8796093022200) :
    Calls Tryz.prog 62 #[.slice ao ls.length c] w fun e w' => ∃ v, e = .returned v ∧ OwnT w' w.heap.size v ls.flatten ∧ Below w.heap.size w w' := by
  have hbig := h.big
  have HH := D.hidIt h
  clear h
  go_enter Tryz.func62, Tryz.ntmps62
  go_wp2_with fail
  go_loopw [3, 11] (fun sv iv wr => ∃ i : Nat, iv = .int .i64 (i : Int) ∧ i ≤ ls.length ∧ sv = .int .i64 (((ls.take i).flatten.length : Nat) : Int) ∧ wr = w) (fun _ iv _ => ls.length - (intOf iv).toNat)
  case atStart => exact ⟨0, rfl, Nat.zero_le _, by simp, rfl⟩
  case round =>
    obtain ⟨i, rfl, hi, rfl, hww⟩ := hrel
    have hww := hww.symm
    subst hww
    by_cases hlt : i < ls.length
    · have hlt' : (i : Int) < (ls.length : Int) := by omega
      obtain ⟨_, _, rows, hr, k⟩ := HH.out
      obtain ⟨b, off, rfl, _, d⟩ := hr (by omega)
      obtain ⟨y, hy⟩ : ∃ y, ls[i]? = some y := ⟨_, List.getElem?_eq_getElem hlt⟩
      obtain ⟨o2, c2, e2, h2⟩ := k i y hy
      have c0 := d i hlt 0 (.slice o2 y.length c2) (by rw [e2]; rfl)
      simp only [Nat.mul_one, Nat.add_zero] at c0
      have hf := take_flat ls i y hy
      have hl := take_len ls (i + 1)
      rw [hf, List.length_append] at hl
      have hneg : ¬ (((ls.take i).flatten.length : Nat) : Int) + (y.length : Int) < 0 := by omega
      generalize hS : (ls.take i).flatten = S at *
      clear d hr k h2 e2
      go_wp2_with fail
      go_roundw
      · exact ⟨i + 1, by go_num, by omega, by rw [hf, List.length_append]; go_num, by first | rfl | trivial⟩
      · simp [intOf]; omega
    · have hlt' : ¬ (i : Int) < (ls.length : Int) := by omega
      obtain rfl : i = ls.length := by omega
      rw [List.take_length]
      clear hlt hi
      obtain ⟨N, hN⟩ : ∃ N, N = ls.flatten.length := ⟨_, rfl⟩
      rw [← hN] at ht
      have HN := D.hidIt hN
      rw [← hN]
      clear hN
      have G := D.hidIt (grow_nil w N ht)
      go_wp2_with (go_at_call 106; refine G.out.mono ?_; rintro e w1 ⟨v1, rfl, ho1, hb1⟩; have HO1 := D.hidIt ho1; have HB1 := D.hidIt hb1; clear ho1 hb1)
      go_loopw [6, 27] (fun sv iv w2 => ∃ i : Nat, iv = .int .i64 (i : Int) ∧ i ≤ ls.length ∧ OwnT w2 w.heap.size sv (ls.take i).flatten ∧ Below w.heap.size w w2) (fun _ iv _ => ls.length - (intOf iv).toNat)
      case atStart => exact ⟨0, rfl, Nat.zero_le _, HO1.out, HB1.out⟩
      case round =>
        obtain ⟨i, rfl, hi, ho, hb⟩ := hrel
        have HO := D.hidIt ho
        have HB := D.hidIt hb
        have hsz := hb.size
        by_cases hlt : i < ls.length
        · have hlt' : (i : Int) < (ls.length : Int) := by omega
          obtain ⟨_, _, rows, hr, k⟩ := HH.out.below hb (TextsR.below hb)
          obtain ⟨b, off, rfl, _, d⟩ := hr (by omega)
          obtain ⟨y, hy⟩ : ∃ y, ls[i]? = some y := ⟨_, List.getElem?_eq_getElem hlt⟩
          obtain ⟨o2, c2, e2, h2⟩ := k i y hy
          have c0 := d i hlt 0 (.slice o2 y.length c2) (by rw [e2]; rfl)
          simp only [Nat.mul_one, Nat.add_zero] at c0
          have hf := take_flat ls i y hy
          have hl := take_len ls (i + 1)
          rw [hf, List.length_append, ← HN.out] at hl
          have HF := D.hidIt hf
          clear hf
          generalize (ls.take i).flatten = S at *
          have H2 := D.hidIt h2
          clear d hr k h2 e2 ho hb
          go_wp2_with (at_builtin; refine wpList_sappend rfl _ _ rfl w.heap.size _ _ _ _ _ HO.out rfl rfl H2.out (by omega) hsz ?_; intro v3 w3 ho3 _ hb3; have HO3 := D.hidIt ho3; have HB3 := D.hidIt (HB.out.trans hb3); clear ho3 hb3 c0)
          go_roundw
          · refine ⟨i + 1, by go_num, by omega, ?_, HB3.out⟩
            rw [HF.out]; exact HO3.out
          · simp [intOf]; omega
        · have hlt' : ¬ (i : Int) < (ls.length : Int) := by omega
          obtain rfl : i = ls.length := by omega
          clear ho hb
          go_wp2_with fail
          go_ret
          refine ⟨_, rfl, ?_, HB.out⟩
          have := HO.out
          rwa [List.take_length] at this
end Go.Proofs.YtccbgdbipihoaaaGreat.Fr
namespace Go.Proofs.YtccbgdbipihoaaaGreat.Fr
open Go.RowKit Q Q.D K

def FrV (w : World) (v : Value) (f : RD) : Prop :=
  ∃ o1 c1 o2 c2, v = .agg #[.int .i64 f.aT, .slice o1 f.loc.length c1, .slice o2 f.stk.length c2] ∧ LAt 1 TextR w o1 c1 f.loc ∧ LAt 1 TextR w o2 c2 f.stk
theorem FrV.below {w w' : World} {v : Value} {f : RD} (h : FrV w v f) (hb : Below w.heap.size w w') : FrV w' v f := by
  obtain ⟨o1, c1, o2, c2, e, h1, h2⟩ := h
  exact ⟨o1, c1, o2, c2, e, h1.below hb (fun _ _ h => h), h2.below hb (fun _ _ h => h)⟩
def OwnF (w : World) (B : Nat) (v : Value) (f : RD) : Prop :=
  ∃ v1 v2 m, v = .agg #[.int .i64 f.aT, v1, v2] ∧ OwnT w B v1 f.loc ∧ OwnT w m v2 f.stk ∧ B ≤ m ∧ m ≤ w.heap.size ∧ ∀ k, v1.ownBlock = some k → k < m
theorem OwnT.mono {w : World} {B B' : Nat} {v : Value} {l : List ByteArray} (h : OwnT w B v l) (hB : B' ≤ B) : OwnT w B' v l := by
  refine ⟨h.1, ?_⟩
  rcases h.2 with x | ⟨g, cap, cur, e, hb, r⟩
  · exact .inl x
  · exact .inr ⟨g, cap, cur, e, by omega, r⟩
theorem OwnT.below {w w' : World} {B : Nat} {v : Value} {l : List ByteArray} (h : OwnT w B v l) (hb : Below w.heap.size w w') : OwnT w' B v l := by
  refine ⟨h.1, ?_⟩
  rcases h.2 with x | ⟨g, cap, cur, e, hB, hg, r⟩
  · exact .inl x
  · exact .inr ⟨g, cap, cur, e, hB, (hb.block g (Array.getElem?_eq_some_iff.1 hg).1).trans hg, r⟩
theorem OwnT.nil (w : World) (B : Nat) : OwnT w B (.slice none 0 0) [] := World.ownsRow_nil _ _ _ _
theorem OwnT.other {w : World} {B b : Nat} {v : Value} {l : List ByteArray} {row : Array Value} {t : TypeId} (h : OwnT w B v l) (hb : Blk w b row t) (ht : t ≠ 9) (row' : Array Value) : OwnT (w.setRow b row') B v l := by
  refine ⟨h.1, ?_⟩
  rcases h.2 with x | ⟨g, cap, cur, e, hB, hg, r⟩
  · exact .inl x
  · refine .inr ⟨g, cap, cur, e, hB, ?_, r⟩
    have hne : g ≠ b := fun e => by
      subst e
      have := hb.symm.trans hg
      simp at this
      exact ht this.2
    rw [World.setRow]
    simp only
    rw [Array.getElem?_modify, if_neg (fun e => hne e.symm)]
    exact hg
theorem OwnF.below {w w' : World} {B : Nat} {v : Value} {f : RD} (h : OwnF w B v f) (hb : Below w.heap.size w w') : OwnF w' B v f := by
  obtain ⟨v1, v2, m, e, h1, h2, hm, hw, hk⟩ := h
  exact ⟨v1, v2, m, e, h1.below hb, h2.below hb, hm, Nat.le_trans hw hb.size, hk⟩
theorem OwnF.view {w : World} {B : Nat} {v : Value} {f : RD} (h : OwnF w B v f) (hl : ∀ s ∈ f.loc, s.size ≤ 9223372036854775807) (hs : ∀ s ∈ f.stk, s.size ≤ 9223372036854775807) : FrV w v f := by
  obtain ⟨v1, v2, m, e, h1, h2, _⟩ := h
  obtain ⟨o1, c1, rfl, k1⟩ := h1.at hl
  obtain ⟨o2, c2, rfl, k2⟩ := h2.at hs
  exact ⟨o1, c1, o2, c2, e, k1, k2⟩
theorem FrV.small {w : World} {v : Value} {f : RD} (h : FrV w v f) : (∀ s ∈ f.loc, s.size ≤ 9223372036854775807) ∧ ∀ s ∈ f.stk, s.size ≤ 9223372036854775807 := by
  obtain ⟨_, _, _, _, _, h1, h2⟩ := h
  exact ⟨LAt.small h1, LAt.small h2⟩
theorem lists1 {w : World} {o : Option Addr} {c : Nat} {l : List ByteArray} (h : LAt 1 TextR w o c l) : LAt 1 TextsR (w.alloc (.cells #[.slice o l.length c] 23)) (some ⟨w.heap.size, 0, none⟩) 1 [l] := by
  have hb := balloc w (.cells #[.slice o l.length c] 23)
  refine ⟨Nat.le_refl _, by unfold maxLen; omega, fun _ => [.slice o l.length c], fun _ => ⟨w.heap.size, 0, rfl, by simp, fun j hj i u hu => ?_⟩, fun i x hx => ?_⟩
  · simp at hj
    subst hj
    match i, hu with
    | 0, hu => cases hu; rw [(Blk.new w #[.slice o l.length c] 23).cell]; rfl
    | i + 1, hu => simp at hu
  · match i, hx with
    | 0, hx => cases hx; exact ⟨o, c, rfl, h.below hb (fun _ _ h => h)⟩
    | i + 1, hx => simp at hx
theorem lists2 {w : World} {o o' : Option Addr} {c c' : Nat} {l l' : List ByteArray} (h : LAt 1 TextR w o c l) (h' : LAt 1 TextR w o' c' l') : LAt 1 TextsR (w.alloc (.cells #[.slice o l.length c, .slice o' l'.length c'] 23)) (some ⟨w.heap.size, 0, none⟩) 2 [l, l'] := by
  have hb := balloc w (.cells #[.slice o l.length c, .slice o' l'.length c'] 23)
  refine ⟨Nat.le_refl _, by unfold maxLen; omega, fun j => if j = 0 then [.slice o l.length c] else [.slice o' l'.length c'], fun _ => ⟨w.heap.size, 0, rfl, by simp, fun j hj i u hu => ?_⟩, fun i x hx => ?_⟩
  · rw [(Blk.new w #[.slice o l.length c, .slice o' l'.length c'] 23).cell]
    match j, i, hj, hu with
    | 0, 0, _, hu => cases hu; rfl
    | 1, 0, _, hu => cases hu; rfl
    | 0, i + 1, _, hu => simp at hu
    | 1, i + 1, _, hu => simp at hu
    | j + 2, _, hj, _ => simp at hj; omega
  · match i, hx with
    | 0, hx => cases hx; exact ⟨o, c, rfl, h.below hb (fun _ _ h => h)⟩
    | 1, hx => cases hx; exact ⟨o', c', rfl, h'.below hb (fun _ _ h => h)⟩
    | i + 2, hx => simp at hx
theorem results_row {fn : Func} {p : Tmp} {ty : TypeId} (h : fn.results = #[.cell p ty]) (tmps : Array Value) (w : World) (g : Nat) (t : TypeId) (cs : Array Value) (fr : Nat × Nat) (d : TypeDesc)
    (hp : tmps.getD p undef = .pointer (some ⟨g, 0, none⟩)) (hg : w.heap[g]? = some (.cells cs t fr))
    (hu : Tryz.prog.underlying ty = some d) (hd : (match d with | .struct _ | .array _ _ => true | _ => false) = true) (hi : (Tryz.prog.info? ty).map (·.size) = some cs.size) :
    (results fn tmps).run Tryz.prog w = .ok (.agg cs) w := by
  have hp' : tmps[p]?.getD undef = .pointer (some ⟨g, 0, none⟩) := by simpa using hp
  have hL := run_loadVar_row (P := Tryz.prog) w g t ty cs fr d hg hu (by cases d <;> simp_all) hi
  simp [results, h, hp', asAddr, hL]
theorem below_setRow {B : Nat} {w w' : World} (h : Below B w w') {b : Nat} (hb : B ≤ b) (row : Array Value) : Below B w (w'.setRow b row) :=
  ⟨h.os, h.tape, h.output, by simpa [World.setRow] using h.size, fun k hk => by
    rw [World.setRow]
    simp only
    rw [Array.getElem?_modify, if_neg (by omega)]
    exact h.block k hk⟩
set_option maxRecDepth 8000 in
set_option maxHeartbeats 2000000 in
theorem made_any (w : World) (at' : Int) (o1 : Option Addr) (c1 : Nat) (l1 : List ByteArray) (ao : Option Addr) (c : Nat) (ls : List (List ByteArray)) (h1 : LAt 1 TextR w o1 c1 l1) (h2 : LAt 1 TextsR w ao c ls) (n1 : l1.length ≤ 8796093022100) (n2 : ls.flatten.length ≤ 8796093022100) :
    Calls Tryz.prog 61 #[.int .i64 at', .slice o1 l1.length c1, .slice ao ls.length c] w fun e w' => ∃ v, e = .returned v ∧ OwnF w' w.heap.size v ⟨at', l1, ls.flatten⟩ ∧ Below w.heap.size w w' := by
  have B1 := balloc w (.cells #[.int .i64 0, .slice none 0 0, .slice none 0 0] 25)
  have Y1 := Blk.new w #[.int .i64 0, .slice none 0 0, .slice none 0 0] 25
  have k1 := lists1 (h1.below B1 (fun _ _ h => h))
  rw [World.size_alloc] at k1
  have HC1 := D.hidIt (concat_any _ _ _ [l1] k1 (by simp; omega))
  rw [show [l1].length = 1 from rfl] at HC1
  have B2 := B1.trans ((balloc (w.alloc (.cells #[.int .i64 0, .slice none 0 0, .slice none 0 0] 25)) (.cells #[.slice o1 l1.length c1] 23)).mono B1.size)
  have Y2 := Y1.alloc (.cells #[.slice o1 l1.length c1] 23)
  go_enter Tryz.func61, Tryz.ntmps61
  go_wp2_with fail
  generalize (w.alloc (.cells #[.int .i64 0, .slice none 0 0, .slice none 0 0] 25)).alloc (.cells #[.slice o1 l1.length c1] 23) = W2 at *
  refine HC1.out.mono ?_
  rintro e w3 ⟨v3, rfl, ow3, b3⟩
  rw [show [l1].flatten = l1 by simp] at ow3
  have B3 := B2.trans (b3.mono B2.size)
  have Y3 := Y2.below b3
  have HC2 := D.hidIt (concat_any w3 ao c ls (h2.below B3 (fun r y h => TextsR.below B3 r y h)) (by omega))
  clear HC1
  go_wp2_with fail
  refine HC2.out.mono ?_
  rintro e w4 ⟨v4, rfl, ow4, b4⟩
  have Y4 := Y3.below b4
  have B4 := B3.trans (b4.mono B3.size)
  have ow3' := ow3.below b4
  obtain ⟨a3, p3, e3, z3⟩ : ∃ ao c, v3 = .slice ao l1.length c ∧ True := by obtain ⟨ao, c, e⟩ := own_slice ow3; exact ⟨ao, c, e, trivial⟩
  obtain ⟨a4, p4, e4, z4⟩ : ∃ ao c, v4 = .slice ao ls.flatten.length c ∧ True := by obtain ⟨ao, c, e⟩ := own_slice ow4; exact ⟨ao, c, e, trivial⟩
  subst e3 e4
  have HO3 := D.hidIt ow3
  have HO3' := D.hidIt ow3'
  have HO4 := D.hidIt ow4
  have hB2 := B2.size
  have hb3 := b3.size
  have hb4 := b4.size
  clear HC2 ow3 ow3' ow4 k1 h1 h2
  obtain ⟨N, hN⟩ : ∃ N, N = ls.flatten.length := ⟨_, rfl⟩
  rw [← hN] at HO4 ⊢
  have HN := D.hidIt hN
  clear hN
  go_wp2_with (refine wpList_store_row rfl 25 _ _ rfl w.heap.size #[.int .i64 at', .slice a3 l1.length p3, .slice a4 N p4] rfl rfl 25 _ Y4 (by kernel_rfl) rfl (by simp [Value.oneCell']) ?_)
  refine bodyPost_ret (results_row rfl _ _ w.heap.size 25 _ (0, 0) _ rfl (setRow_heap _ _ _ _ _ _ Y4) Tryz.underlying25 rfl (by kernel_rfl)) rfl ?_
  refine ⟨_, rfl, ⟨_, _, w3.heap.size, rfl, (OwnT.other HO3'.out Y4 (by decide) _).mono (by omega), OwnT.other HO4.out Y4 (by decide) _, by omega, by simp [World.setRow]; omega, fun k hk => (HO3.out.lt k hk).2⟩, below_setRow B4 (Nat.le_refl _) _⟩
end Go.Proofs.YtccbgdbipihoaaaGreat.Fr
namespace Go.Proofs.YtccbgdbipihoaaaGreat.Q.D
open Go.RowKit
set_option maxRecDepth 8000 in
set_option maxHeartbeats 2000000 in
theorem class_any (s : ByteArray) (w : World) (hs : s.size ≤ 9223372036854775807) :
    Calls Tryz.prog 107 #[.string s] w fun e w' => e = .returned (.string (str (classZ s.data.toList))) ∧ w' = w := by
  have hN := hidIt (field_any s w hs)
  unfold classZ
  by_cases h1 : fieldB s.data.toList = true
  · have h0 := field_pos h1
    rw [if_pos h1]
    rw [h1] at hN
    by_cases h2 : s[0].toNat = 76
    · rw [if_pos (show s.data.toList[0]? = some 76 from (at0 s h0 76 (by omega)).2 h2)]
      have b : ((s[0].toNat : Int) == 76) = true := by simp; omega
      have h3 : 2 ≤ s.size := by
        rcases Nat.lt_or_ge s.size 2 with h | h
        · exfalso
          have hl : s.data.toList = [76] := by
            have e := drop_at s 0 h0
            rw [List.drop_zero, List.drop_eq_nil_of_le (by rw [← size_len]; omega), u8_of h2 (by omega)] at e
            exact e
          rw [hl] at h1
          exact absurd h1 (by decide)
        · exact h
      have e := ext_str s 1 (s.size - 1)
      rw [show s.size - 1 - 1 = s.data.toList.length - 2 by rw [← size_len]; omega] at e
      generalize str (List.take (s.data.toList.length - 2) (List.drop 1 s.data.toList)) = X at *
      clear h1
      go_enter Tryz.func107, Tryz.ntmps107
      go_wp2_with fail
      refine hN.out.mono ?_
      rintro e w' ⟨rfl, hww⟩; cases hww
      go_wp2
      go_ret
      exact ⟨rfl, rfl⟩
    · rw [if_neg (show ¬ s.data.toList[0]? = some 76 from fun h => h2 ((at0 s h0 76 (by omega)).1 h))]
      have b : ((s[0].toNat : Int) == 76) = false := by simp; omega
      by_cases h3 : s[0].toNat = 91
      · rw [if_pos (show s.data.toList[0]? = some 91 from (at0 s h0 91 (by omega)).2 h3)]
        have b2 : ((s[0].toNat : Int) == 91) = true := by simp; omega
        clear h1
        go_enter Tryz.func107, Tryz.ntmps107
        go_wp2_with fail
        refine hN.out.mono ?_
        rintro e w' ⟨rfl, hww⟩; cases hww
        go_wp2
        go_ret
        exact ⟨rfl, rfl⟩
      · rw [if_neg (show ¬ s.data.toList[0]? = some 91 from fun h => h3 ((at0 s h0 91 (by omega)).1 h))]
        have b2 : ((s[0].toNat : Int) == 91) = false := by simp; omega
        clear h1
        go_enter Tryz.func107, Tryz.ntmps107
        go_wp2_with fail
        refine hN.out.mono ?_
        rintro e w' ⟨rfl, hww⟩; cases hww
        go_wp2
        go_ret
        exact ⟨rfl, rfl⟩
  · rw [if_neg h1]
    simp only [Bool.not_eq_true] at h1
    rw [h1] at hN
    clear h1
    go_enter Tryz.func107, Tryz.ntmps107
    go_wp2_with fail
    refine hN.out.mono ?_
    rintro e w' ⟨rfl, hww⟩; cases hww
    go_wp2
    go_ret
    exact ⟨rfl, rfl⟩

set_option maxRecDepth 8000 in
set_option maxHeartbeats 1000000 in
theorem ref_any (s : ByteArray) (w : World) (hs : s.size ≤ 1073741824) :
    Calls Tryz.prog 54 #[.string s] w fun e w' => e = .returned (.string (str (76 :: (s.data.toList ++ [59])))) ∧ w' = w := by
  go_enter Tryz.func54, Tryz.ntmps54
  go_wp2
  go_ret
  refine ⟨?_, rfl⟩
  rw [← str_of (s := { data := #[76] } ++ s ++ { data := #[59] }) (by rw [cat_data, cat_data]; simp)]
  rfl
end Go.Proofs.YtccbgdbipihoaaaGreat.Q.D
namespace Go.Proofs.YtccbgdbipihoaaaGreat.T
open Go.RowKit Q Q.D K

def eS (s : ByteArray) : ByteArray := str (elemZ (bsB s)).1
def cS (s : ByteArray) : ByteArray := if bsB (eS s) == [] then str (classZ (bsB s)) else str (classZ (bsB (eS s)))
theorem eS_size (s : ByteArray) : (eS s).size ≤ s.size := by
  unfold eS elemZ
  rw [str_size, size_len]
  split
  · simp
  · simp
def ksub (R : List KD) (a b : ByteArray) : Bool := (klin R a).any fun k => bsB k.nm == bsB b
theorem any_map {α β : Type} (f : α → β) (p : β → Bool) (l : List α) : (l.map f).any p = l.any (fun x => p (f x)) := by rw [List.any_map]; rfl
theorem subB_k' (R : List Mem) (a b : ByteArray) : subB R a b = ksub (R.map Mem.k) a b := by
  unfold subB ksub
  rw [← lin_k, any_map]
  congr 1
  funext m
  rw [Lib.toList_data, Lib.toList_data]
def slotK (s : ByteArray) : Bool := (bsB s == [63]) || ((bsB s == [48]) || fieldB (bsB s))
theorem slot_k (s : ByteArray) : slotB s = slotK s := by unfold slotB slotK; rw [Lib.toList_data]
def isRefK (s : ByteArray) : Bool := (bsB s == [48]) || ((Lib.hasPrefix (bsB s) [76] || Lib.hasPrefix (bsB s) [91]) && slotK s)
def knownK (R : List KD) (s : ByteArray) : Bool := slotK s && ((bsB (cS s) == []) || ksub R (cS s) (cS s))
def bothK (a b : ByteArray) (p : Bs) : Bool := Lib.hasPrefix (bsB a) p && Lib.hasPrefix (bsB b) p
def objL : Bs := [76, 79, 98, 106, 101, 99, 116, 59]
def fitsK (R : List KD) : Nat → ByteArray → ByteArray → Bool
  | 0, _, _ => false
  | n + 1, a, b => if (bsB b == [63]) || (bsB a == bsB b) then true else if bsB a == [48] then isRefK b else if bothK a b [76] then ksub R (cS a) (cS b) else if Lib.hasPrefix (bsB a) [91] && (bsB b == objL) then true else if bothK a b [91, 76] then fitsK R n (eS a) (eS b) else false
def FitsK (R : List KD) (a b : ByteArray) : Bool := knownK R a && (knownK R b && fitsK R 2 a b)
def refS (s : ByteArray) : ByteArray := str (76 :: (bsB s ++ [59]))

set_option maxRecDepth 8000 in
set_option maxHeartbeats 1000000 in
theorem elem_t (s : ByteArray) (w : World) (hs : s.size ≤ 9223372036854775807) : Calls Tryz.prog 75 #[.string s] w fun e w' => e = .returned (.string (eS s)) ∧ w' = w := by
  have hE := D.hidIt (elem_any s w hs)
  unfold eS
  go_enter Tryz.func75, Tryz.ntmps75
  go_wp2_with (go_at_call 111; refine hE.out.mono ?_; rintro e w' ⟨rfl, hww⟩; cases hww)
  go_ret
  exact ⟨rfl, rfl⟩
set_option maxRecDepth 8000 in
set_option maxHeartbeats 1000000 in
theorem class_t (s : ByteArray) (w : World) (hs : s.size ≤ 9223372036854775807) : Calls Tryz.prog 64 #[.string s] w fun e w' => e = .returned (.string (cS s)) ∧ w' = w := by
  have hE := D.hidIt (elem_t s w hs)
  have hz := eS_size s
  have t1 : ((eS s).toList == []) = (bsB (eS s) == []) := by rw [Lib.toList_data]
  have t2 : ((eS s).toList != []) = !(bsB (eS s) == []) := by rw [← t1]; rfl
  unfold cS
  generalize eS s = E at *
  have hC1 := D.hidIt (class_any s w hs)
  have hC2 := D.hidIt (class_any E w (by omega))
  cases h : bsB E == []
  · rw [h] at t1 t2
    go_enter Tryz.func64, Tryz.ntmps64
    go_wp2_with (first | (go_at_call 75; refine hE.out.mono ?_; rintro e w' ⟨rfl, hww⟩; cases hww) | (go_at_call 107; refine hC2.out.mono ?_; rintro e w' ⟨rfl, hww⟩; cases hww))
    go_ret
    exact ⟨rfl, rfl⟩
  · rw [h] at t1 t2
    go_enter Tryz.func64, Tryz.ntmps64
    go_wp2_with (first | (go_at_call 75; refine hE.out.mono ?_; rintro e w' ⟨rfl, hww⟩; cases hww) | (go_at_call 107; refine hC1.out.mono ?_; rintro e w' ⟨rfl, hww⟩; cases hww))
    go_ret
    exact ⟨rfl, rfl⟩
set_option maxRecDepth 8000 in
set_option maxHeartbeats 1000000 in
theorem both_t (a b p : ByteArray) (w : World) : Calls Tryz.prog 73 #[.string a, .string b, .string p] w fun e w' => e = .returned (.bool (bothK a b (bsB p))) ∧ w' = w := by
  have h1 := D.hidIt (Tryz.strings_HasPrefix a p w)
  have h2 := D.hidIt (Tryz.strings_HasPrefix b p w)
  unfold bothK bsB
  generalize Lib.hasPrefix a.data.toList p.data.toList = x at *
  generalize Lib.hasPrefix b.data.toList p.data.toList = y at *
  cases x
  · go_enter Tryz.func73, Tryz.ntmps73
    go_wp2_with (go_at_call 70; refine h1.out.mono ?_; rintro e w' ⟨rfl, hww⟩; cases hww)
    go_ret
    exact ⟨rfl, rfl⟩
  · go_enter Tryz.func73, Tryz.ntmps73
    go_wp2_with fail
    refine h1.out.mono ?_; rintro e w' ⟨rfl, hww⟩; cases hww
    go_wp2_with fail
    refine h2.out.mono ?_; rintro e w' ⟨rfl, hww⟩; cases hww
    go_wp2_with fail
    go_ret
    exact ⟨by simp, rfl⟩
set_option maxRecDepth 8000 in
set_option maxHeartbeats 1000000 in
theorem isRef_t (s : ByteArray) (w : World) (hs : s.size ≤ 9223372036854775807) : Calls Tryz.prog 31 #[.string s] w fun e w' => e = .returned (.bool (isRefK s)) ∧ w' = w := by
  have h1 := D.hidIt (Tryz.strings_HasPrefix s ⟨#[76]⟩ w)
  have h2 := D.hidIt (Tryz.strings_HasPrefix s ⟨#[91]⟩ w)
  have h3 := D.hidIt (slot_any s w hs)
  rw [slot_k] at h3
  have t1 : (s.toList == [48]) = (bsB s == [48]) := by rw [Lib.toList_data]
  unfold isRefK
  change Hid (Calls _ _ _ _ fun e w' => e = .returned (.bool (Lib.hasPrefix (bsB s) [76])) ∧ w' = w) at h1
  change Hid (Calls _ _ _ _ fun e w' => e = .returned (.bool (Lib.hasPrefix (bsB s) [91])) ∧ w' = w) at h2
  generalize Lib.hasPrefix (bsB s) [76] = x at *
  generalize Lib.hasPrefix (bsB s) [91] = y at *
  generalize slotK s = z at *
  cases hq : bsB s == [48]
  · rw [hq] at t1
    cases x
    · cases y
      · go_enter Tryz.func31, Tryz.ntmps31
        go_wp2_with fail
        refine h1.out.mono ?_; rintro e w' ⟨rfl, hww⟩; cases hww
        go_wp2_with fail
        refine h2.out.mono ?_; rintro e w' ⟨rfl, hww⟩; cases hww
        go_wp2_with fail
        go_ret
        exact ⟨rfl, rfl⟩
      · go_enter Tryz.func31, Tryz.ntmps31
        go_wp2_with fail
        refine h1.out.mono ?_; rintro e w' ⟨rfl, hww⟩; cases hww
        go_wp2_with fail
        refine h2.out.mono ?_; rintro e w' ⟨rfl, hww⟩; cases hww
        go_wp2_with fail
        refine h3.out.mono ?_; rintro e w' ⟨rfl, hww⟩; cases hww
        go_wp2_with fail
        go_ret
        exact ⟨by simp, rfl⟩
    · go_enter Tryz.func31, Tryz.ntmps31
      go_wp2_with fail
      refine h1.out.mono ?_; rintro e w' ⟨rfl, hww⟩; cases hww
      go_wp2_with fail
      refine h3.out.mono ?_; rintro e w' ⟨rfl, hww⟩; cases hww
      go_wp2_with fail
      go_ret
      exact ⟨by simp, rfl⟩
  · rw [hq] at t1
    go_enter Tryz.func31, Tryz.ntmps31
    go_wp2_with fail
    go_ret
    exact ⟨rfl, rfl⟩
set_option maxRecDepth 8000 in
set_option maxHeartbeats 1000000 in
theorem known_t (w : World) (pk : Nat) (R : List Mem) (mb : Nat) (ao : Option Addr) (c : Nat) (h : KinV w pk R mb ao c) (s : ByteArray) (hs : s.size ≤ 9223372036854775000) :
    Calls Tryz.prog 29 #[.pointer (some ⟨pk, 0, none⟩), .string s] w fun e w' => e = .returned (.bool (knownK (R.map Mem.k) s)) ∧ Below w.heap.size w w' := by
  have h1 := D.hidIt (class_t s w (by omega))
  have h2 := D.hidIt (slot_any s w (by omega))
  have h3 := D.hidIt (sub_any w pk R mb ao c h (cS s) (cS s))
  rw [slot_k] at h2
  rw [subB_k'] at h3
  unfold knownK
  have t1 : ((cS s).toList == []) = (bsB (cS s) == []) := by rw [Lib.toList_data]
  generalize slotK s = z at *
  generalize cS s = C at *
  generalize ksub (R.map Mem.k) C C = q at *
  cases z
  · go_enter Tryz.func29, Tryz.ntmps29
    go_wp2_with fail
    refine h1.out.mono ?_; rintro e w' ⟨rfl, hww⟩; cases hww
    go_wp2_with fail
    refine h2.out.mono ?_; rintro e w' ⟨rfl, hww⟩; cases hww
    go_wp2_with fail
    go_ret
    exact ⟨rfl, Below.refl _ _⟩
  · cases hq : bsB C == []
    · rw [hq] at t1
      go_enter Tryz.func29, Tryz.ntmps29
      go_wp2_with fail
      refine h1.out.mono ?_; rintro e w' ⟨rfl, hww⟩; cases hww
      go_wp2_with fail
      refine h2.out.mono ?_; rintro e w' ⟨rfl, hww⟩; cases hww
      go_wp2_with fail
      refine h3.out.mono ?_; rintro e w' ⟨rfl, hb⟩
      go_wp2_with fail
      go_ret
      exact ⟨by simp, hb⟩
    · rw [hq] at t1
      go_enter Tryz.func29, Tryz.ntmps29
      go_wp2_with fail
      refine h1.out.mono ?_; rintro e w' ⟨rfl, hww⟩; cases hww
      go_wp2_with fail
      refine h2.out.mono ?_; rintro e w' ⟨rfl, hww⟩; cases hww
      go_wp2_with fail
      go_ret
      exact ⟨rfl, Below.refl _ _⟩
end Go.Proofs.YtccbgdbipihoaaaGreat.T
