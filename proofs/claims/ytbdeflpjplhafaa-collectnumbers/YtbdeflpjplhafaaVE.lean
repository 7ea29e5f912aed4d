/- mark of package collect: walked. -/
import Derived.Test.YtbdeflpjplhafaaVB
namespace Go.Proofs.Ytbdeflpjplhafaa.J
open Go.RowKit Go.MapKept Go.ChangeMaps
set_option linter.unusedVariables false

variable {n0 : Nat} {w W : World} {H : HB} {most : Nat} {l : List Ob} {ss : List (List Bool)} {roots : List Int}
def rootB (l : List Ob) (x : Int) : Bool := x == 0 || (objZ l x).isSome
theorem rootB_iff {l : List Ob} {x : Int} : rootB l x = true ↔ (x = 0 ∨ (objZ l x).isSome = true) := by simp [rootB]
set_option maxRecDepth 8000 in
theorem mayBe_any (h : HeapV n0 w H most l ss) (x : Int) : Calls Try.prog 36 #[H.ptr, .int .i64 x] w fun e w' => e = .returned (.bool (rootB l x)) ∧ w' = w := by
  have G := hidIt (ShapeOf_any h x)
  have hz : (shpZ l x != -3) = (objZ l x).isSome := by
    unfold shpZ
    cases e : objZ l x with
    | none => simp
    | some o =>
      have := (h.wf.obj e).1
      simp; omega
  unfold rootB
  unfold HB.ptr at G ⊢
  rw [← hz]
  clear hz h
  generalize shpZ l x = s at *
  by_cases h0 : x = 0
  · subst h0
    rw [show ((0 : Int) == 0 || s != -3) = true from rfl]
    go_enter Try.func36, Try.ntmps36
    go_wp2_with (go_at_call 61; refine G.out.mono ?_; rintro e w' ⟨rfl, hww⟩; cases hww)
    go_ret
    exact ⟨rfl, rfl⟩
  · go_enter Try.func36, Try.ntmps36
    go_wp2_with (go_at_call 61; refine G.out.mono ?_; rintro e w' ⟨rfl, hww⟩; cases hww)
    go_ret
    exact ⟨rfl, rfl⟩
theorem made_false (T : Nat) : madeCells #[Value.bool false] T = (tcells (List.replicate T false)).toArray := by
  apply Array.toList_inj.1
  rw [toList_madeCells_one]
  simp [tcells]
/-- What a marking answers. -/
def MkQ (w : World) (mb hb : Nat) (ss : List (List Bool)) (l : List Ob) (roots : List Int) (w' : World) : Prop :=
  ∃ (qb : Nat) (R : List Bool) (lv : Value) (st : Nat), MV w.heap.size w' mb qb hb R lv [] (st : Int) ∧ Gm ss l roots R [] roots.length 0 0 st ∧ Below w.heap.size w w'
def stW (mb : Nat) (w : World) : Nat := match w.cell? ⟨mb, 3, none⟩ with
  | some (.int _ v) => v.toNat
  | _ => 0
theorem MV.stW {B mb rb hb : Nat} {W : World} {R : List Bool} {lv : Value} {left : List Int} {st : Nat} (h : MV B W mb rb hb R lv left (st : Int)) : stW mb W = st := by unfold J.stW; rw [h.c3]; simp
set_option maxRecDepth 8000 in
set_option maxHeartbeats 2000000 in
theorem gmark_any (h : HeapV n0 w H most l ss) (hr : RefsOk ss l) (vk : Value) (hv : NView w vk roots) (hrl : roots.length ≤ 1000000000000000) :
    Calls Try.prog 31 #[H.ptr, vk] w fun e w' => (roots.all (rootB l) = false ∧ e = .returned (.tuple #[.pointer none, .int .i64 1]) ∧ Below w.heap.size w w') ∨ (roots.all (rootB l) = true ∧ ∃ mb, e = .returned (.tuple #[.pointer (some ⟨mb, 0, none⟩), .int .i64 0]) ∧ MkQ w mb H.hb ss l roots w') := by
  have HV := hidIt hv
  obtain ⟨ao, cap, rfl, hc, hm, _⟩ := hv
  unfold maxLen at hm
  have hm2 : usedN l ≤ 16384 := Nat.le_trans h.few h.most
  obtain ⟨iI, hI, hI0, hI1, hI2⟩ := info_parts Try.infoB
  have m1 : ∀ W : World, (Instr.makeSlice 52 (.int .i64 ((usedN l : Int) + 1)) (.int .i64 ((usedN l : Int) + 1))).run Try.prog W = .ok (.slice (some ⟨W.heap.size, 0, none⟩) (usedN l + 1) (usedN l + 1)) (W.alloc (.cells (tcells (List.replicate (usedN l + 1) false)).toArray 4)) := fun W => by
    have := run_make_row (P := Try.prog) 52 4 iI (.bool false) Try.underlying52 hI hI0 hI1 rfl .i64 .i64 (usedN l + 1) (by rw [hI2]; omega) (by omega) W
    rw [made_false] at this
    rw [show ((usedN l + 1 : Nat) : Int) = (usedN l : Int) + 1 by omega] at this
    exact this
  clear hI hI0 hI1 hI2
  have GU := hidIt (used_any h)
  have MV1 : Hid (GmW w (w.heap.size + 1) w.heap.size H.hb ss l roots 0 0 0 0 ((w.alloc (.cells (tcells (List.replicate (usedN l + 1) false)).toArray 4)).alloc (.cells #[.pointer (some ⟨H.hb, 0, none⟩), .slice (some ⟨w.heap.size, 0, none⟩) (usedN l + 1) (usedN l + 1), .slice none 0 0, .int .i64 0] 71))) := hidIt ⟨List.replicate (usedN l + 1) false, [], .slice none 0 0, 0, ⟨by omega, Nat.le_refl _, by
      have := Blk.new (w.alloc (.cells (tcells (List.replicate (usedN l + 1) false)).toArray 4)) #[.pointer (some ⟨H.hb, 0, none⟩), .slice (some ⟨w.heap.size, 0, none⟩) (usedN l + 1) (usedN l + 1), .slice none 0 0, .int .i64 0] 71
      rw [World.size_alloc] at this
      rw [List.length_replicate]
      exact this, by
      have := Blk.new w (tcells (List.replicate (usedN l + 1) false)).toArray 4
      exact this.kept (Below.heap_alloc _ _ _ (by simp)), NOwn.nil _ _⟩, Gm.start, Nat.zero_le _, ((Below.refl _ w).alloc (Nat.le_refl _) _).alloc (by simp) _⟩
  have GB : Hid (∀ wr, Below w.heap.size w wr → ∀ x, Calls Try.prog 36 #[.pointer (some ⟨H.hb, 0, none⟩), .int .i64 x] wr fun e w' => e = .returned (.bool (rootB l x)) ∧ w' = wr) := hidIt (fun wr hb x => mayBe_any (h.below hb) x)
  have GF : Hid (∀ (wr : World) (R : List Bool) (left : List Int) (lv : Value) (st k mb qb : Nat) x, Below w.heap.size w wr → MV w.heap.size wr mb qb H.hb R lv left (st : Int) → Gm ss l roots R (left ++ [x]) k 0 0 st → k ≤ 1000000000000000 → Calls Try.prog 52 #[.pointer (some ⟨mb, 0, none⟩), .int .i64 x] wr fun e w' => (∃ u, e = .returned u) ∧ GmW w mb qb H.hb ss l roots k 0 0 (st + 1) w') := hidIt (fun wr R left lv st k mb qb x a b c d => gfollow_any h hr a b c d)
  have HRb : Hid (∀ x, rootB l x = true → x = 0 ∨ (objZ l x).isSome = true) := hidIt (fun x => rootB_iff.1)
  clear h hr
  unfold HB.ptr at *
  go_enter Try.func31, Try.ntmps31
  go_wp2_with (go_at_call 11; refine GU.out.mono ?_; rintro e w' ⟨rfl, hww⟩; cases hww)
  clear GU m1
  go_loopw [20] (fun jv wr => ∃ k : Nat, k ≤ roots.length ∧ jv = .int .i64 (k : Int) ∧ (∀ (i : Nat) x, roots[i]? = some x → i < k → rootB l x = true) ∧ GmW w (w.heap.size + 1) w.heap.size H.hb ss l roots k 0 0 0 wr) (fun jv _ => roots.length - (intOf jv).toNat)
  case atStart => exact ⟨0, Nat.zero_le _, rfl, fun _ _ _ h => absurd h (by omega), MV1.out⟩
  case round =>
    clear MV1
    obtain ⟨k, hk, rfl, hall, R, left, lv, st, m, g, -, hb⟩ := hrel
    generalize hmb : w.heap.size + 1 = mb at *
    by_cases hlt : k < roots.length
    · have hlt' : (k : Int) < (roots.length : Int) := by omega
      obtain ⟨x, hx⟩ : ∃ x, roots[k]? = some x := ⟨roots[k], List.getElem?_eq_getElem hlt⟩
      obtain ⟨g0, off, rfl, c0⟩ := (HV.out.below hb).row hx
      have GB2 := hidIt (GB.out wr hb x)
      cases hrb : rootB l x with
      | false =>
        rw [hrb] at GB2
        have HA : Hid (roots.all (rootB l) = false) := hidIt (by
          rw [List.all_eq_false]
          exact ⟨x, List.mem_of_getElem? hx, by rw [hrb]; decide⟩)
        have HB := hidIt hb
        clear GF GB hall m g hb hx HV HRb hrb
        go_wp2_with (go_at_call 36; refine GB2.out.mono ?_; rintro e w' ⟨rfl, hww⟩; cases hww)
        go_ret2
        exact .inl ⟨HA.out, rfl, HB.out⟩
      | true =>
        rw [hrb] at GB2
        have hxo := HRb.out x hrb
        have hfw := g.few
        have hgl := g.len
        have x3 := m.c3
        have f3 := m.fz 3
        have M1 := m.steps ((st : Int) + 1)
        have BB := hidIt (hb.setCell (p := ⟨mb, 3, none⟩) m.lo (.int .i64 ((st : Int) + 1)))
        have y0 := M1.c0
        have GC := hidIt ((greach_any M1 x (hxo.imp id (fun h => by
          obtain ⟨o', ho'⟩ := Option.isSome_iff_exists.1 h
          have := objZ_in ho'
          omega)) (by omega) (by omega)).mono (R' := fun e w' => (∃ u, e = .returned u) ∧ ∃ k' : Nat, k' ≤ roots.length ∧ Value.int .i64 ((k : Int) + 1) = .int .i64 (k' : Int) ∧ (∀ (i : Nat) x, roots[i]? = some x → i < k' → rootB l x = true) ∧ GmW w mb w.heap.size H.hb ss l roots k' 0 0 0 w') (fun e w' ⟨a, lv', b, c⟩ => ⟨a, k + 1, by omega, by go_num, fun i x' hi hik => by
            by_cases e : i = k
            · subst e; rw [hx] at hi; cases hi; exact hrb
            · exact hall i x' hi (by omega), _, _, lv', st + 1, by rw [show ((st + 1 : Nat) : Int) = (st : Int) + 1 by omega]; exact b, g.root hx hxo, Nat.zero_le _, BB.out.trans c⟩))
        have hst : (st : Int) ≤ 9000000000000000000 := by omega
        clear GF GB hall M1 m g hb hx HV HRb hrb hxo hgl hfw BB
        generalize hP : GmW w mb w.heap.size H.hb ss l roots = P at *
        go_wp2_with (first
          | (go_at_call 36; refine GB2.out.mono ?_; rintro e w' ⟨rfl, hww⟩; cases hww)
          | (go_at_call 51; refine GC.out.mono ?_; rintro e w' ⟨⟨u, rfl⟩, hq⟩; have HQ := hidIt hq; clear hq))
        subst hmb
        exact ⟨HQ.out, by simp [intOf]; omega⟩
    · have hlt' : ¬ (k : Int) < (roots.length : Int) := by omega
      obtain rfl : k = roots.length := by omega
      have hrl' := hrl
      have HA : Hid (roots.all (rootB l) = true) := hidIt (by
        rw [List.all_eq_true]
        intro x hx
        obtain ⟨i, hi⟩ := List.getElem?_of_mem hx
        exact hall i x hi (List.getElem?_eq_some_iff.1 hi).1)
      have G0 : Hid (GmW w mb w.heap.size H.hb ss l roots roots.length 0 0 0 wr) := hidIt ⟨R, left, lv, st, m, g, Nat.zero_le _, hb⟩
      clear hall m g hb HV HRb GB
      go_wp2_with fail
      generalize hT : roots.length = T at *
      go_loopw [] (fun wr => GmW w mb w.heap.size H.hb ss l roots T 0 0 0 wr) (fun wr => T + usedN l + 1 - stW mb wr)
      case atStart => exact G0.out
      case round =>
        clear G0
        obtain ⟨R, left, lv, st, m, g, -, hb⟩ := hrel
        have x2 := m.c2
        have f2 := m.fz 2
        obtain ⟨al, cl, e1⟩ := own_slice m.own
        have hfw := g.few
        have hsw : stW mb wr = st := by unfold stW; rw [m.c3]; simp
        rw [hsw]
        by_cases h0 : left = []
        · subst h0
          subst e1
          have FIN : Hid (MkQ w mb H.hb ss l roots wr) := hidIt ⟨w.heap.size, R, _, st, m, by rw [hT]; exact g, hb⟩
          clear m g hb GF
          go_wp2_with fail
          go_ret2
          exact .inr ⟨HA.out, mb, rfl, FIN.out⟩
        · obtain ⟨left', x, rfl⟩ : ∃ left' x, left = left' ++ [x] := ⟨left.dropLast, left.getLast h0, (List.dropLast_concat_getLast h0).symm⟩
          have hl1 : (left' ++ [x]).length = left'.length + 1 := by simp
          rw [hl1] at e1 hfw
          subst e1
          have GP := hidIt (gpop_any m (by omega))
          have HG := hidIt g
          have HB := hidIt hb
          have hpos : (0 : Int) < ((left'.length + 1 : Nat) : Int) := by omega
          have hz : w.heap.size ≤ wr.heap.size := hb.size
          clear m g hb hl1 h0
          go_wp2_with (first
            | (go_at_call 53; refine GP.out.mono ?_; rintro e w' ⟨rfl, lv', hm2, hb2⟩; have GF2 := hidIt (GF.out w' R left' lv' st T mb w.heap.size x (HB.out.trans hb2) hm2 HG.out (by omega)); clear hm2 hb2)
            | (go_at_call 52; refine GF2.out.mono ?_; rintro e w' ⟨⟨u, rfl⟩, hq⟩; have HQ := hidIt hq; clear hq))
          obtain ⟨R5, left5, lv5, st5, m5, g5, h5, b5⟩ := HQ.out
          refine ⟨⟨R5, left5, lv5, st5, m5, g5, Nat.zero_le _, b5⟩, ?_⟩
          have hs5 := m5.stW
          rw [hs5]
          omega
end Go.Proofs.Ytbdeflpjplhafaa.J
namespace Go.Proofs.Ytbdeflpjplhafaa.J
open Go.RowKit Go.MapKept Go.ChangeMaps
set_option linter.unusedVariables false

def pairA : Nat → List Ob → List (Nat × Ob)
  | _, [] => []
  | p, o :: l => (p, o) :: pairA (p + (o.f.length + 3)) l
theorem pairA_keys : ∀ (l : List Ob) (p : Nat), keysK (pairA p l) = begs p l
  | [], p => rfl
  | o :: l, p => by
    have := pairA_keys l (p + (o.f.length + 3))
    unfold keysK at this
    simp [pairA, keysK, begs, this]
theorem pairA_ge : ∀ (l : List Ob) (p : Nat) (x : Nat × Ob), x ∈ pairA p l → p ≤ x.1
  | [], p, x, h => by simp [pairA] at h
  | o :: l, p, x, h => by
    simp only [pairA, List.mem_cons] at h
    rcases h with rfl | h
    · exact Nat.le_refl _
    · have := pairA_ge l _ x h; omega
theorem pairA_rise : ∀ (l : List Ob) (p : Nat), (pairA p l).Pairwise fun a b => a.1 < b.1
  | [], p => List.Pairwise.nil
  | o :: l, p => by
    simp only [pairA]
    refine List.pairwise_cons.2 ⟨fun x hx => ?_, pairA_rise l _⟩
    have := pairA_ge l _ x hx
    omega
theorem atN_cons (o : Ob) (l : List Ob) (p : Nat) : atN (o :: l) p = if p = 0 then some o else if p < o.f.length + 3 then none else atN l (p - (o.f.length + 3)) := rfl
theorem pairA_at : ∀ (l : List Ob) (p : Nat) (x : Nat × Ob), x ∈ pairA p l ↔ (p ≤ x.1 ∧ atN l (x.1 - p) = some x.2)
  | [], p, x => by simp [pairA, atN]
  | o :: l, p, x => by
    simp only [pairA, List.mem_cons, pairA_at l]
    obtain ⟨q, o'⟩ := x
    simp only [Prod.mk.injEq]
    rw [atN_cons]
    by_cases h0 : q - p = 0
    · rw [if_pos h0]
      constructor
      · rintro (⟨rfl, rfl⟩ | ⟨h1, h2⟩)
        · exact ⟨Nat.le_refl _, rfl⟩
        · omega
      · rintro ⟨h1, h2⟩
        cases h2
        exact .inl ⟨by omega, rfl⟩
    · rw [if_neg h0]
      by_cases h1 : q - p < o.f.length + 3
      · rw [if_pos h1]
        constructor
        · rintro (⟨rfl, rfl⟩ | ⟨h2, h3⟩)
          · omega
          · omega
        · rintro ⟨h2, h3⟩; cases h3
      · rw [if_neg h1, show q - p - (o.f.length + 3) = q - (p + (o.f.length + 3)) by omega]
        constructor
        · rintro (⟨rfl, rfl⟩ | ⟨h2, h3⟩)
          · omega
          · exact ⟨by omega, h3⟩
        · rintro ⟨h2, h3⟩
          exact .inr ⟨by omega, h3⟩
/-- What is marked. -/
def markK (R : List Bool) (l : List Ob) : List (Nat × Ob) := (pairA 0 l).filter fun x => mkB R ((x.1 : Int) + 1)
theorem markK_keys (R : List Bool) (l : List Ob) : keysK (markK R l) = (begs 0 l).filter (mkB R) := by
  rw [← pairA_keys]
  unfold markK keysK
  rw [List.filter_map]
  rfl
theorem markK_ok (R : List Bool) (l : List Ob) : KOk l (markK R l) :=
  ⟨fun x hx => by
    have := (pairA_at l 0 x).1 (List.mem_filter.1 hx).1
    simpa using this.2, (pairA_rise l 0).filter _⟩
/-- Exactly what is reached. -/
structure RchK (ss : List (List Bool)) (l : List Ob) (roots : List Int) (K : List (Nat × Ob)) : Prop where
  ok : KOk l K
  iff : ∀ x, x ∈ keysK K ↔ Rch ss l roots x
variable {ss : List (List Bool)} {l : List Ob} {roots : List Int} {R : List Bool} {left : List Int} {k : Nat} {cx : Int} {rem st : Nat} {K : List (Nat × Ob)}
theorem objZ_pair {x : Int} {o : Ob} (h : objZ l x = some o) : ((x - 1).toNat, o) ∈ pairA 0 l ∧ (((x - 1).toNat : Nat) : Int) + 1 = x := by
  have h1 := (objZ_in h).1
  exact ⟨(pairA_at l 0 _).2 ⟨Nat.zero_le _, by simpa using objZ_at h⟩, by omega⟩
theorem Gm.kept (h : Gm ss l roots R [] roots.length 0 0 st) : RchK ss l roots (markK R l) ∧ st = roots.length + wtA R 0 l := by
  refine ⟨⟨markK_ok R l, fun x => ?_⟩, by have := h.eq; simp only [wtL] at this; omega⟩
  rw [← h.end_ x]
  constructor
  · intro hx
    obtain ⟨y, hy, rfl⟩ := List.mem_map.1 hx
    exact (List.mem_filter.1 hy).2
  · intro hx
    obtain ⟨o, ho⟩ := Option.isSome_iff_exists.1 (h.ob x hx)
    obtain ⟨h1, h2⟩ := objZ_pair ho
    refine List.mem_map.2 ⟨_, List.mem_filter.2 ⟨h1, ?_⟩, h2⟩
    simp only [h2]
    exact hx
theorem toA_in : ∀ (K : List (Nat × Ob)) (q : Nat) (x : Int), x ∈ keysK K → 0 < toA q K x.toNat
  | [], q, x, h => by simp [keysK] at h
  | (p, o) :: K, q, x, h => by
    unfold toA
    simp only [keysK, List.map_cons, List.mem_cons] at h
    by_cases e : p + 1 = x.toNat
    · rw [if_pos e]; omega
    · rw [if_neg e]
      refine toA_in K _ x (h.resolve_left (fun e2 => e ?_))
      omega
theorem RchK.lead (h : RchK ss l roots K) : okK ss K = true := by
  refine okK_of fun i p o hi => okO_of fun n hn hr => ?_
  obtain ⟨y, hy⟩ : ∃ y, o.f[n]? = some y := ⟨o.f[n], List.getElem?_eq_getElem hn⟩
  rw [hy]
  simp only [Option.getD_some]
  unfold leadK
  by_cases h0 : y = 0
  · simp [h0]
  · have h1 : Rch ss l roots ((p : Int) + 1) := (h.iff _).1 (List.mem_of_getElem? (keysK_at hi))
    have h2 := (h.iff y).2 (.step h1 (h.ok.obj hi) hy hr h0)
    have := toA_in K 0 y h2
    simp; omega
theorem filter_snoc {l : List Int} {f : Int → Bool} {k : Nat} {x : Int} (hx : l[k]? = some x) : (l.take (k + 1)).filter f = (l.take k).filter f ++ (if f x = true then [x] else []) := by
  rw [take_snoc hx, List.filter_append]
  by_cases h : f x = true <;> simp [h]
variable {n0 : Nat} {w W : World} {H : HB} {most : Nat}
set_option maxRecDepth 8000 in
set_option maxHeartbeats 2000000 in
theorem glist_any (h : HeapV n0 w H most l ss) {mb qb : Nat} {lv : Value} {sc : Int} (m : MV w.heap.size W mb qb H.hb R lv left sc) (hb : Below w.heap.size w W) (hRl : R.length = usedN l + 1) :
    Calls Try.prog 32 #[.pointer (some ⟨mb, 0, none⟩)] W fun e w' => ∃ v, e = .returned v ∧ NOwn w' W.heap.size v (keysK (markK R l)) ∧ Below W.heap.size W w' := by
  rw [markK_keys]
  have GA := hidIt (All_any (h.below hb))
  have hm2 : usedN l ≤ 16384 := Nat.le_trans h.few h.most
  have hge := usedN_ge l
  have x0 := m.c0
  have M := hidIt m
  have hin : ∀ (k : Nat) (x : Int), (begs 0 l)[k]? = some x → 1 ≤ x ∧ x.toNat < R.length := fun k x hx => by
    have hk := (List.getElem?_eq_some_iff.1 hx).1
    rw [begs_len] at hk
    have := begs_at l 0 k hk
    rw [hx] at this
    cases this
    have := (usedN_take l k l[k] (List.getElem?_eq_getElem hk)).2
    have := (usedN_take l k l[k] (List.getElem?_eq_getElem hk)).1
    omega
  have hbl : (begs 0 l).length ≤ 16384 := by rw [begs_len]; omega
  have hRl2 : R.length ≤ 100000 := by omega
  have hin' := hidIt hin
  unfold HB.ptr at GA
  clear h hb m hin hRl hge
  generalize begs 0 l = bs at *
  go_enter Try.func32, Try.ntmps32
  go_wp2_with (go_at_call 14; refine GA.out.mono ?_; rintro e w1 ⟨v', rfl, hn, hb⟩; have HN := hidIt hn; have HB := hidIt hb; obtain ⟨ao, cap, rfl⟩ := own_slice hn; clear hn hb)
  go_loopw [3, 12] (fun o jv wr => ∃ k : Nat, k ≤ bs.length ∧ jv = .int .i64 (k : Int) ∧ NOwn wr w1.heap.size o ((bs.take k).filter (mkB R)) ∧ Below w1.heap.size w1 wr) (fun _ jv _ => bs.length - (intOf jv).toNat)
  case atStart => exact ⟨0, Nat.zero_le _, rfl, NOwn.nil _ _, Below.refl _ _⟩
  case round =>
    obtain ⟨k, hk, rfl, ho, hb⟩ := hrel
    have HO := hidIt ho
    have HB2 := hidIt hb
    obtain ⟨ao3, cap3, rfl⟩ := own_slice ho
    have hz : w1.heap.size ≤ wr.heap.size := hb.size
    have M2 := (M.out.below HB.out).below (hb.mono (Nat.le_refl _))
    have x1 := M2.c1
    have x0 := M2.c0
    by_cases hlt : k < bs.length
    · have hlt' : (k : Int) < (bs.length : Int) := by omega
      obtain ⟨x, hx⟩ : ∃ x, bs[k]? = some x := ⟨bs[k], List.getElem?_eq_getElem hlt⟩
      obtain ⟨g, off, rfl, c0⟩ := ((NOwn.view HN.out).below hb).row hx
      obtain ⟨hx1, hx2⟩ := hin'.out k x hx
      obtain ⟨j, rfl⟩ : ∃ j : Nat, x = (j : Int) := ⟨x.toNat, by omega⟩
      simp only [Int.toNat_natCast] at hx2
      obtain ⟨b, hb'⟩ : ∃ b, R[j]? = some b := ⟨R[j], List.getElem?_eq_getElem hx2⟩
      obtain ⟨z1, z2⟩ := M2.at_ hb'
      have hmk : mkB R (j : Int) = b := by simp [mkB, hb', hx1]
      have hj' : (j : Int) < (R.length : Int) := by omega
      have hfs := filter_snoc (f := mkB R) hx
      rw [hmk] at hfs
      have hll : ((bs.take k).filter (mkB R)).length ≤ 16384 := Nat.le_trans (List.length_filter_le _ _) (by rw [List.length_take]; omega)
      cases b with
      | false =>
        have NX : Hid (NOwn wr w1.heap.size (.slice ao3 ((bs.take k).filter (mkB R)).length cap3) ((bs.take (k + 1)).filter (mkB R))) := hidIt (by rw [hfs]; simpa using ho)
        clear hfs ho hb M2 hmk hb' hx HN
        generalize R.length = T at *
        generalize (bs.take k).filter (mkB R) = acc at *
        go_wp2_with fail
        exact ⟨⟨k + 1, by omega, by go_num, NX.out, HB2.out⟩, by simp [intOf]; omega⟩
      | true =>
        have NX : Hid (∀ W v, NOwn W w1.heap.size v ((bs.take k).filter (mkB R) ++ [(j : Int)]) → NOwn W w1.heap.size v ((bs.take (k + 1)).filter (mkB R))) := hidIt (fun W v h => by rw [hfs]; exact h)
        clear hfs ho hb M2 hmk hb' hx HN
        generalize R.length = T at *
        generalize (bs.take k).filter (mkB R) = acc at *
        go_wp2_with (at_builtin; refine wpList_nappend rfl _ _ rfl w1.heap.size _ _ _ HO.out rfl rfl (by omega) hz ?_; intro ao4 cap4 w2 ho2 st2; have HB3 := hidIt ((HB2.out.trans ((balloc _ _).mono hz)).trans (st2.below (Nat.le_trans hz (balloc _ _).size) (fun k hk => (HO.out.lt k hk).1))); have HO2 := hidIt (NX.out _ _ ho2); clear ho2 st2)
        exact ⟨⟨k + 1, by omega, by go_num, HO2.out, HB3.out⟩, by simp [intOf]; omega⟩
    · have hlt' : ¬ (k : Int) < (bs.length : Int) := by omega
      obtain rfl : k = bs.length := by omega
      rw [List.take_length] at *
      clear ho hb M2
      go_wp2_with fail
      go_ret
      exact ⟨_, rfl, own_wk HO.out HB.out.size, HB.out.trans (HB2.out.mono HB.out.size)⟩
end Go.Proofs.Ytbdeflpjplhafaa.J
namespace Go.Proofs.Ytbdeflpjplhafaa.J
open Go.RowKit Go.MapKept Go.ChangeMaps
set_option linter.unusedVariables false

variable {n0 : Nat} {w W : World} {H : HB} {most : Nat} {l : List Ob} {ss : List (List Bool)} {roots : List Int}
/-- What Mark answers. -/
def MarkQ (w : World) (ss : List (List Bool)) (l : List Ob) (roots : List Int) (v : Value) (w' : World) : Prop :=
  ∃ K, RchK ss l roots K ∧ NOwn w' w.heap.size v (keysK K) ∧ Below w.heap.size w w'
set_option maxRecDepth 8000 in
theorem gMark_nil (vk : Value) (w : World) : Calls Try.prog 6 #[.pointer none, vk] w fun e w' => e = .returned (.tuple #[.slice none 0 0, .int .i64 1]) ∧ w' = w := by
  have G : Hid (Calls Try.prog 31 #[.pointer none, vk] w fun e w' => e = .returned (.tuple #[.pointer none, .int .i64 1]) ∧ w' = w) := hidIt (by
    go_enter Try.func31, Try.ntmps31
    go_wp2
    go_ret2
    exact ⟨rfl, rfl⟩)
  go_enter Try.func6, Try.ntmps6
  go_wp2_with (go_at_call 31; refine G.out.mono ?_; rintro e w' ⟨rfl, hww⟩; cases hww)
  go_ret2
  exact ⟨rfl, rfl⟩
set_option maxRecDepth 8000 in
theorem gMark_any (h : HeapV n0 w H most l ss) (hr : RefsOk ss l) (vk : Value) (hv : NView w vk roots) (hrl : roots.length ≤ 1000000000000000) :
    Calls Try.prog 6 #[H.ptr, vk] w fun e w' => (roots.all (rootB l) = false ∧ e = .returned (.tuple #[.slice none 0 0, .int .i64 1]) ∧ Below w.heap.size w w') ∨ (roots.all (rootB l) = true ∧ ∃ v, e = .returned (.tuple #[v, .int .i64 0]) ∧ MarkQ w ss l roots v w') := by
  have G := hidIt (gmark_any h hr vk hv hrl)
  have HH := hidIt h
  clear h hr hv
  unfold HB.ptr at *
  cases ha : roots.all (rootB l) with
  | false =>
    rw [ha] at G
    have G2 : Hid (Calls Try.prog 31 #[.pointer (some ⟨H.hb, 0, none⟩), vk] w fun e w' => e = .returned (.tuple #[.pointer none, .int .i64 1]) ∧ Below w.heap.size w w') := hidIt (G.out.mono (fun e w' he => by
      rcases he with ⟨_, a, b⟩ | ⟨a, _⟩
      · exact ⟨a, b⟩
      · cases a))
    clear G ha
    go_enter Try.func6, Try.ntmps6
    go_wp2_with (go_at_call 31; refine G2.out.mono ?_; rintro e w' ⟨rfl, hb⟩; have HB := hidIt hb; clear hb)
    go_ret2
    exact .inl ⟨trivial, rfl, HB.out⟩
  | true =>
    rw [ha] at G
    have G2 : Hid (Calls Try.prog 31 #[.pointer (some ⟨H.hb, 0, none⟩), vk] w fun e w' => ∃ mb, e = .returned (.tuple #[.pointer (some ⟨mb, 0, none⟩), .int .i64 0]) ∧ MkQ w mb H.hb ss l roots w') := hidIt (G.out.mono (fun e w' he => by
      rcases he with ⟨a, _⟩ | ⟨_, a⟩
      · cases a
      · exact a))
    have GLs : Hid (∀ w' mb, MkQ w mb H.hb ss l roots w' → Calls Try.prog 32 #[.pointer (some ⟨mb, 0, none⟩)] w' fun e w'' => ∃ v, e = .returned v ∧ MarkQ w ss l roots v w'') := hidIt (fun w' mb ⟨qb, R, lv, st, m, g, hb⟩ => (glist_any HH.out m hb g.len).mono (fun e w'' ⟨v, a, b, c⟩ => ⟨v, a, markK R l, g.kept.1, own_wk b hb.size, hb.trans (c.mono hb.size)⟩))
    clear G ha HH
    go_enter Try.func6, Try.ntmps6
    go_wp2_with (first
      | (go_at_call 31; refine G2.out.mono ?_; rintro e w' ⟨mb, rfl, hq⟩; have GL2 := hidIt (GLs.out w' mb hq); clear hq)
      | (go_at_call 32; refine GL2.out.mono ?_; rintro e w' ⟨v, rfl, hq⟩; have HQ := hidIt hq; clear hq))
    go_ret2
    exact .inr ⟨trivial, _, rfl, HQ.out⟩
set_option maxRecDepth 8000 in
theorem gSize_nil (vk : Value) (w : World) : Calls Try.prog 8 #[.pointer none, vk] w fun e w' => e = .returned (.tuple #[.int .i64 0, .int .i64 1]) ∧ w' = w := by
  have G := hidIt (gMark_nil vk w)
  go_enter Try.func8, Try.ntmps8
  go_wp2_with (go_at_call 6; refine G.out.mono ?_; rintro e w' ⟨rfl, hww⟩; cases hww)
  go_loopw [8, 19] (fun s jv wr => s = .int .i64 0 ∧ jv = .int .i64 0 ∧ wr = w) (fun _ _ _ => 0)
  case atStart => exact ⟨rfl, rfl, rfl⟩
  case round =>
    obtain ⟨rfl, rfl, rfl⟩ := hrel
    go_wp2
    go_ret2
    exact ⟨rfl, rfl⟩
set_option maxRecDepth 8000 in
theorem gSize_any (h : HeapV n0 w H most l ss) (hr : RefsOk ss l) (vk : Value) (hv : NView w vk roots) (hrl : roots.length ≤ 1000000000000000) (ha : roots.all (rootB l) = true) :
    Calls Try.prog 8 #[H.ptr, vk] w fun e w' => ∃ K, RchK ss l roots K ∧ e = .returned (.tuple #[.int .i64 (usedN (obsK K) : Int), .int .i64 0]) ∧ Below w.heap.size w w' := by
  have hm2 : usedN l ≤ 16384 := Nat.le_trans h.few h.most
  have G : Hid (Calls Try.prog 6 #[H.ptr, vk] w fun e w' => ∃ v, e = .returned (.tuple #[v, .int .i64 0]) ∧ MarkQ w ss l roots v w') := hidIt ((gMark_any h hr vk hv hrl).mono (fun e w' he => by
    rcases he with ⟨a, _⟩ | ⟨_, a⟩
    · rw [ha] at a; cases a
    · exact a))
  have GL : Hid (∀ wr, Below w.heap.size w wr → ∀ x, Calls Try.prog 35 #[H.ptr, .int .i64 x] wr fun e w' => e = .returned (.int .i64 (lenZ l x)) ∧ w' = wr) := hidIt (fun wr hb x => Len_any (h.below hb) x)
  clear h hr hv
  unfold HB.ptr at *
  go_enter Try.func8, Try.ntmps8
  go_wp2_with (go_at_call 6; refine G.out.mono ?_; rintro e w1 ⟨v, rfl, K, hK, hn, hb⟩; have HN := hidIt hn; have HB := hidIt hb; have HK := hidIt hK; obtain ⟨ao, cap, rfl⟩ := own_slice hn; clear hn hb hK)
  have hkl := keysK_len K
  rw [hkl]
  have hkl' := hidIt hkl
  have hwi := HK.out.ok.within
  have hKc : K.length ≤ 16384 := by have := usedN_ge (obsK K); rw [obsK_len] at this; omega
  clear hkl
  go_loopw [8, 19] (fun s jv wr => ∃ k : Nat, k ≤ K.length ∧ jv = .int .i64 (k : Int) ∧ s = .int .i64 (usedN ((obsK K).take k) : Int) ∧ wr = w1) (fun _ jv _ => K.length - (intOf jv).toNat)
  case atStart => exact ⟨0, Nat.zero_le _, rfl, rfl, rfl⟩
  case round =>
    obtain ⟨k, hk, rfl, rfl, rfl⟩ := hrel
    by_cases hlt : k < K.length
    · have hlt' : (k : Int) < (K.length : Int) := by omega
      obtain ⟨⟨p, o⟩, hx⟩ : ∃ x, K[k]? = some x := ⟨K[k], List.getElem?_eq_getElem hlt⟩
      obtain ⟨u1, u2⟩ := usedN_take (obsK K) k o (obsK_at hx)
      have hvv := NOwn.view HN.out
      rw [hkl'.out] at hvv
      obtain ⟨g, off, rfl, c0⟩ := hvv.row (keysK_at hx)
      have GL2 := hidIt (GL.out wr HB.out ((p : Int) + 1))
      have eL : lenZ l ((p : Int) + 1) = o.f.length := by unfold lenZ; rw [HK.out.ok.obj hx]
      rw [eL] at GL2
      have NX : Hid (Value.int .i64 ((usedN ((obsK K).take k) : Int) + (3 + (o.f.length : Int))) = .int .i64 (usedN ((obsK K).take (k + 1)) : Int)) := hidIt (by rw [u1]; go_num)
      have u3 : usedN ((obsK K).take k) + (o.f.length + 3) ≤ 16384 := by omega
      clear hx GL u1 u2 hvv
      generalize usedN ((obsK K).take k) = q at *
      generalize o.f.length = n at *
      have e2 : (q : Int) + (3 + (n : Int)) ≤ 16384 := by omega
      go_wp2_with (go_at_call 35; refine GL2.out.mono ?_; rintro e w' ⟨rfl, hww⟩; cases hww)
      exact ⟨⟨k + 1, by omega, by go_num, NX.out, by trivial⟩, by simp [intOf]; omega⟩
    · have hlt' : ¬ (k : Int) < (K.length : Int) := by omega
      obtain rfl : k = K.length := by omega
      have e1 : (obsK K).take K.length = obsK K := by rw [← obsK_len, List.take_length]
      rw [e1]
      go_wp2_with fail
      go_ret2
      exact ⟨K, HK.out, rfl, HB.out⟩
end Go.Proofs.Ytbdeflpjplhafaa.J

