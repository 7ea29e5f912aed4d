/- Texts FQ FG FR FJ. -/
import Derived.Test.YtbmfkbgncjldjabBv29
import Derived.WalkMore
import Derived.Test.YtbmfkbgncjldjabBv27
import Derived.Test.YtbmfkbgncjldjabBv02
import Derived.Deep.RegionHeld3
import Derived.Test.YtbmfkbgncjldjabBv24
namespace Go.Proofs.Ytbmfkbgncjldjab
open Go.RowKit

theorem NOwn.set {w : World} {B g n cap k : Nat} {l : List Int} (y : Int) (h : NOwn w B (.slice (some ⟨g, 0, none⟩) n cap) l) (hn : l.length = n) : NOwn (w.setCell ⟨g, k, none⟩ (.int .i64 y)) B (.slice (some ⟨g, 0, none⟩) n cap) (l.set k y) := by
  subst hn
  obtain ⟨hl, h⟩ := h
  rcases h with ⟨h, _⟩ | ⟨g', cap', cur, e, hB, hg, hnc, hcm, hcs, ht⟩
  · cases h
  · cases e
    refine ⟨by rw [ncells_len, List.length_set]; omega, .inr ⟨g, cap, _, by rw [List.length_set], hB, set_row hg, by rw [List.length_set]; exact hnc, hcm, by simpa using hcs, ?_⟩⟩
    rw [List.length_set, Array.toList_setIfInBounds, List.take_set, ht]
    simp [ncells, List.map_set]
theorem kstep {w w' : World} {o : Obj} {B n T s : Nat} {v v' : Value} {xs : List Value} (st : Step v (w.alloc o) v' w') (h : w.ownsRow B T s v n xs) {k : Nat} {cs : Array Value} {U : TypeId} (hU : T ≠ U) (hk : w.heap[k]? = some (.cells cs U (0, 0))) : w'.heap[k]? = some (.cells cs U (0, 0)) := by
  have hlt := (Array.getElem?_eq_some_iff.1 hk).1
  rw [st.grown.block k (Nat.lt_of_lt_of_le hlt (below_alloc w o).size) (own_ne h hk hU), (below_alloc w o).block k hlt]
  exact hk
structure KL (w : World) (g : Nat) (bl : List (Nat × Nat)) (nx : Nat × Nat → List Int) (i : Nat) (cs : Array Value) : Prop where
  row : w.heap[g]? = some (.cells cs 34 (0, 0))
  fst : ∀ (j : Nat) (x : Nat × Nat), bl[j]? = some x → cs[j * 3]? = some (.int .i64 (x.1 : Int)) ∧ cs[j * 3 + 1]? = some (.int .i64 (x.2 : Int)) ∧ ∃ u, cs[j * 3 + 2]? = some u
  lst : ∀ (j : Nat) (x : Nat × Nat), bl[j]? = some x → j < i → ∃ u, cs[j * 3 + 2]? = some u ∧ NOwn w 0 u (nx x)
theorem Try.infoN0 : (Try.prog.info? 3).map (fun i => (i.zero, i.size, i.bytes)) = some (some (.int .i64 0), 1, 8) := by kernel_rfl
theorem brows_get (l : List (Nat × Nat)) (j : Nat) (x : Nat × Nat) (i : Nat) (h : l[j]? = some x) (hi : i < 3) : (brows l)[j * 3 + i]? = (brow x)[i]? := r5_get brow 3 (fun _ => rfl) l j x i h hi
def mixL (f : Int → Int) (L : List Int) (j : Nat) : List Int := (L.take j).map f ++ L.drop j
theorem mixL_len (f : Int → Int) (L : List Int) (j : Nat) : (mixL f L j).length = L.length := by simp [mixL]; omega
theorem mixL_get {f : Int → Int} {L : List Int} {j : Nat} {x : Int} (h : L[j]? = some x) : (mixL f L j)[j]? = some x := by
  have hj := (List.getElem?_eq_some_iff.1 h).1
  unfold mixL
  rw [List.getElem?_append_right (by simp; omega), List.getElem?_drop]
  simp [Nat.min_eq_left (Nat.le_of_lt hj), h]
theorem mixL_set {f : Int → Int} {L : List Int} {j : Nat} {x : Int} (h : L[j]? = some x) : (mixL f L j).set j (f x) = mixL f L (j + 1) := by
  obtain ⟨hj, e⟩ := List.getElem?_eq_some_iff.1 h
  unfold mixL
  rw [List.drop_eq_getElem_cons hj, List.set_append, if_neg (by simp; omega), List.length_map, List.length_take, Nat.min_eq_left (by omega), Nat.sub_self, List.set_cons_zero, List.take_add_one, h]
  simp
structure Kg (B g : Nat) (w w' : World) : Prop where
  os : w'.os = w.os
  tape : w'.tape = w.tape
  output : w'.output = w.output
  size : w.heap.size ≤ w'.heap.size
  block : ∀ k, k < B → k ≠ g → w'.heap[k]? = w.heap[k]?
theorem Kg.trans {B g : Nat} {a b c : World} (h : Kg B g a b) (k : Kg B g b c) : Kg B g a c := ⟨k.os.trans h.os, k.tape.trans h.tape, k.output.trans h.output, Nat.le_trans h.size k.size, fun i hi hp => (k.block i hi hp).trans (h.block i hi hp)⟩
theorem Kg.of_below {B g C : Nat} {w w' : World} (h : Below C w w') (hB : B ≤ C) : Kg B g w w' := ⟨h.os, h.tape, h.output, h.size, fun k hk _ => h.block k (by omega)⟩
theorem Kg.drewN {B g : Nat} {w w' : World} (h : Kg B g w w') (q : Nat) : Kg B g w (w'.drewN q) := ⟨h.os, h.tape, h.output, h.size, h.block⟩
theorem Kg.set {B g k o : Nat} {w w' : World} {u : Value} (h : Kg B g w w') (hk : B ≤ k ∨ k = g) : Kg B g w (w'.setCell ⟨k, o, none⟩ u) :=
  ⟨h.os, h.tape, h.output, by simpa [World.setCell] using h.size, fun i hi hp => by rw [Below.heap_setCell _ _ _ _ (by show i ≠ k; omega)]; exact h.block i hi hp⟩
theorem Kg.below {B C g : Nat} {w w' : World} (h : Kg B g w w') (hC : C ≤ B) (hg : C ≤ g) : Below C w w' := ⟨h.os, h.tape, h.output, h.size, fun k hk => h.block k (by omega) (by omega)⟩
theorem NOwn.kg {w w' : World} {g C : Nat} {cs : Array Value} {v : Value} {l : List Int} (h : NOwn w C v l) (hg : w.heap[g]? = some (.cells cs 34 (0, 0))) (k : Kg w.heap.size g w w') : NOwn w' C v l := by
  refine ⟨h.1, ?_⟩
  rcases h.2 with x | ⟨g', cap, cur, rfl, hB, hg', r⟩
  · exact .inl x
  · exact .inr ⟨g', cap, cur, rfl, hB, (k.block g' (Array.getElem?_eq_some_iff.1 hg').1 (other_block hg' hg (by decide))).trans hg', r⟩
theorem KL.next {w w' : World} {g i : Nat} {bl : List (Nat × Nat)} {nx : Nat × Nat → List Int} {cs : Array Value} {x : Nat × Nat} {v : Value} {B : Nat} (h : KL w g bl nx i cs) (hi : bl[i]? = some x) (k : Kg w.heap.size g w w') (hr : w'.heap[g]? = some (.cells (cs.setIfInBounds (i * 3 + 2) v) 34 (0, 0))) (hv : NOwn w' B v (nx x)) : KL w' g bl nx (i + 1) (cs.setIfInBounds (i * 3 + 2) v) := by
  refine ⟨hr, fun j y hj => ?_, fun j y hj hji => ?_⟩
  · obtain ⟨h1, h2, u, h3⟩ := h.fst j y hj
    refine ⟨by rw [Array.getElem?_setIfInBounds_ne (by omega)]; exact h1, by rw [Array.getElem?_setIfInBounds_ne (by omega)]; exact h2, ?_⟩
    by_cases e : j = i
    · subst e
      exact ⟨v, Array.getElem?_setIfInBounds_self_of_lt (Array.getElem?_eq_some_iff.1 h3).1⟩
    · exact ⟨u, by rw [Array.getElem?_setIfInBounds_ne (by omega)]; exact h3⟩
  · by_cases e : j = i
    · subst e
      rw [hi] at hj
      cases hj
      obtain ⟨_, _, u, h3⟩ := h.fst j x hi
      exact ⟨v, Array.getElem?_setIfInBounds_self_of_lt (Array.getElem?_eq_some_iff.1 h3).1, hv.wk (Nat.zero_le _)⟩
    · obtain ⟨u, h3, h4⟩ := h.lst j y hj (by omega)
      exact ⟨u, by rw [Array.getElem?_setIfInBounds_ne (by omega)]; exact h3, h4.kg h.row k⟩
theorem KL.begin {w : World} {B g cap : Nat} {bl : List (Nat × Nat)} {nx : Nat × Nat → List Int} (h : w.ownsRow B 34 3 (.slice (some ⟨g, 0, none⟩) bl.length cap) bl.length (brows bl)) : ∃ cs, KL w g bl nx 0 cs ∧ bl.length ≤ cap ∧ cap ≤ 9223372036854775807 := by
  rcases h.2 with ⟨h, _⟩ | ⟨g', cap', cur, e, hB, hg, h1, h2, h3, h4⟩
  · cases h
  · cases e
    have hc : ∀ (j : Nat) (x : Nat × Nat) (i : Nat), bl[j]? = some x → i < 3 → cur[j * 3 + i]? = (brow x)[i]? := by
      intro j x i hj hi
      have hlt := (List.getElem?_eq_some_iff.1 hj).1
      rw [← brows_get bl j x i hj hi, ← h4, List.getElem?_take, if_pos (by omega), Array.getElem?_toList]
    exact ⟨cur, ⟨hg, fun j x hj => ⟨hc j x 0 hj (by decide), hc j x 1 hj (by decide), _, hc j x 2 hj (by decide)⟩, fun j x hj hji => absurd hji (Nat.not_lt_zero _)⟩, h1, h2⟩
set_option maxRecDepth 8000 in
set_option maxHeartbeats 8000000 in
theorem blocks_any (v u : Value) (l : List IN) (h : List HN) (w : World) (hv : IView w v l) (hu : HView w u h) (hlen : l.length ≤ 1000000000000) :
    Calls Try.prog 7 #[v, u] w fun e w' => ∃ (ao : Option Addr) (cap : Nat) (bl : List (Nat × Nat)) (nu : List Int), e = .returned (.slice ao bl.length cap) ∧ Blk (leadZ l h) l.length 0 bl ∧ Numb bl nu ∧ nu.length = l.length ∧ Below w.heap.size w w' ∧ (bl = [] ∨ ∃ g cs, ao = some ⟨g, 0, none⟩ ∧ KL w' g bl (fun x => (nextZ l ((x.2 : Int) - 1)).map (fun m => (nu[m.toNat]?).getD 0)) bl.length cs) := by
  have GL := hidIt (leaders_any v u l h w hv hu (by omega))
  have GN := hidIt (fun (n : Int) W (hb : Below w.heap.size w W) => next_any v l n W (hv.below hb))
  obtain ⟨i0, hi, hz0, hz1, hz2⟩ := info_parts Try.infoN0
  obtain ⟨ao, cap, rfl, hc, hm, _⟩ := hv
  obtain ⟨ao2, cap2, rfl, -⟩ := hu
  unfold maxLen at hm
  generalize leadZ l h = d at *
  go_enter Try.func7, Try.ntmps7
  go_wp2_with fail
  go_step3
  go_wp2_with fail
  refine GL.out.mono ?_
  rintro e w1 ⟨gl, rfl, hgl, hrow, hdl, hb1⟩
  have HB := hidIt hb1
  have HD := hidIt hrow
  have hz := hb1.size
  clear hb1 hrow GL
  go_upto_region 4 with (at_make; refine wpList_make_row _ rfl _ _ 22 rfl 3 i0 (.int .i64 0) Try.underlying22 hi hz0 hz1 rfl _ _ l.length rfl rfl (by rw [hz2]; omega) (by omega) ?_)
  have hA := below_alloc w1 (.cells (madeCells #[.int .i64 0] l.length) 3)
  have HN : Hid ((w1.alloc (.cells (madeCells #[.int .i64 0] l.length) 3)).heap[w1.heap.size]? = some (.cells (ncells (List.replicate l.length 0)).toArray 3 (0, 0))) := by
    show _ = _
    rw [heap_alloc_new, made_nums]
  have HB2 := hidIt (HB.out.trans (hA.mono HB.out.size))
  have HD2 := hidIt ((hA.block _ (Array.getElem?_eq_some_iff.1 HD.out).1).trans HD.out)
  generalize w1.alloc (.cells (madeCells #[.int .i64 0] l.length) 3) = w2 at *
  have hgn : w.heap.size ≤ w1.heap.size := hz
  generalize w1.heap.size = gn at *
  clear HB HD hA hz
  have HB := HB2
  have HD := HD2
  clear HB2 HD2
  have HO : Hid (w2.ownsRow w.heap.size 34 3 (.slice none 0 0) ([] : List (Nat × Nat)).length (brows [])) := World.ownsRow_nil _ _ _ _
  go_wp2_with fail
  try go_step3
  go_wp2_with fail
  go_loopw [7, 8, 9] (fun vb fr _ wr => ∃ (p : Nat) (bl : List (Nat × Nat)) (nu : List Int), fr = .int .i64 (p : Int) ∧ BlkP d l.length p bl ∧ Numb bl nu ∧ nu.length = l.length ∧ wr.ownsRow w.heap.size 34 3 vb bl.length (brows bl) ∧ wr.heap[gn]? = some (.cells (ncells nu).toArray 3 (0, 0)) ∧ wr.heap[gl]? = some (.cells (bcellsB d) 4 (0, 0)) ∧ Below w.heap.size w wr) (fun _ fr _ _ => l.length - (intOf fr).toNat)
  case atStart => exact ⟨0, [], _, rfl, .nil, fun j x hj => by simp at hj, by simp, HO.out, HN.out, HD.out, HB.out⟩
  case round =>
    clear HO HN HD HB
    obtain ⟨p, bl, nu, rfl, hbk, hnb, hnl, ho, hn, hd, hb⟩ := hrel
    have HO := hidIt ho
    have HN := hidIt hn
    have HD := hidIt hd
    have HB := hidIt hb
    have HK := hidIt hbk
    have HNB := hidIt hnb
    obtain ⟨aob, capb, rfl⟩ := own_slice ho
    have hpl := hbk.lt
    obtain ⟨hpl1, hpl2, -⟩ := hpl
    clear ho hn hd hb hbk hnb
    have hz := HB.out.size
    by_cases hlt : p < l.length
    · have hlt' : (p : Int) < (l.length : Int) := by omega
      have cn : wr.cell? ⟨gn, p, none⟩ = some (.int .i64 nu[p]) := cell_row HN.out p (by simp [ncells, hnl, hlt])
      have hf := frozen_row HN.out
      have HN2 : Hid ((wr.setCell ⟨gn, p, none⟩ (.int .i64 (bl.length : Int))).heap[gn]? = some (.cells (ncells (nu.set p (bl.length : Int))).toArray 3 (0, 0))) := by
        show _ = _
        rw [set_row HN.out]
        congr 2
        simp [ncells, List.map_set]
      have og : OnlyG gn wr (wr.setCell ⟨gn, p, none⟩ (.int .i64 (bl.length : Int))) := (OnlyG.refl gn wr).set
      have HO2 := hidIt (own_set (u := .int .i64 (bl.length : Int)) (o := p) HO.out HN.out (by decide))
      have HD2 := hidIt ((og.block _ (other_block HD.out HN.out (by decide))).trans HD.out)
      have HB2 := hidIt (HB.out.trans (og.below hgn))
      go_upto_region 7 with (fail)
      generalize wr.setCell ⟨gn, p, none⟩ (.int .i64 (bl.length : Int)) = ws at *
      clear HO HN HD HB cn hf og hz
      have HO := HO2
      have HN := HN2
      have HD := HD2
      have HB := HB2
      clear HO2 HN2 HD2 HB2
      have hz := HB.out.size
      go_wp2_with fail
      go_loopw [7, 8, 9] (fun vb fr tv wr => vb = .slice aob bl.length capb ∧ fr = .int .i64 (p : Int) ∧ ∃ t : Nat, tv = .int .i64 (t : Int) ∧ p < t ∧ t ≤ l.length ∧ (∀ q, p < q → q < t → d[q]? = some false) ∧ wr = ws) (fun _ _ tv _ => l.length - (intOf tv).toNat)
      case atStart => exact ⟨rfl, rfl, p + 1, by go_num, by omega, by omega, fun q h1 h2 => by omega, rfl⟩
      case round =>
        obtain ⟨rfl, rfl, t, rfl, hpt, htl, hq, hww⟩ := hrel
        cases hww
        have HQ := hidIt hq
        clear hq
        by_cases htn : t = l.length
        · subst htn
          have htn' : ((l.length : Int) == (l.length : Int)) = true := by simp
          have htn : l.length = l.length := rfl
          have HSN := hidIt (BlkP.snoc HK.out hpt htl HQ.out (.inl htn))
          have HNN := hidIt (Numb.snoc (t := l.length) HK.out HNB.out (by rw [hnl]; exact hlt))
          clear htn
          go_wp2_with (at_builtin; refine wpList_kappend rfl _ _ rfl w.heap.size _ _ p l.length HO.out rfl rfl (by omega) HB.out.size ?_; intro ao1 cap1 w2 ho2 st2; have HO2 := hidIt ho2; have ST2 := hidIt st2; clear ho2 st2)
          refine ⟨⟨l.length, _, _, rfl, HSN.out, HNN.out, by rw [List.length_set]; exact hnl, HO2.out, ?_, ?_, ?_⟩, by simp [intOf]; omega⟩
          · exact kstep ST2.out HO.out (by decide) HN.out
          · exact kstep ST2.out HO.out (by decide) HD.out
          · exact (HB.out.trans ((below_alloc _ _).mono HB.out.size)).trans (ST2.out.below (Nat.le_trans HB.out.size (below_alloc _ _).size) (fun k hk => (HO.out.lt k hk).1))
        · have htn' : ((t : Int) == (l.length : Int)) = false := by simpa using fun h => htn (by omega)
          have hdt : t < d.length := by omega
          have cd : ws.cell? ⟨gl, t, none⟩ = some (.bool d[t]) := cell_row HD.out t (by simp [bcellsB, hdt])
          have htl' : (t : Int) < (l.length : Int) := by omega
          cases hdv : d[t] with
          | true =>
            rw [hdv] at cd
            have HSN := hidIt (BlkP.snoc HK.out hpt htl HQ.out (.inr (by rw [List.getElem?_eq_getElem hdt, hdv])))
            have HNN := hidIt (Numb.snoc (t := t) HK.out HNB.out (by rw [hnl]; exact hlt))
            go_wp2_with (at_builtin; refine wpList_kappend rfl _ _ rfl w.heap.size _ _ p t HO.out rfl rfl (by omega) HB.out.size ?_; intro ao1 cap1 w2 ho2 st2; have HO2 := hidIt ho2; have ST2 := hidIt st2; clear ho2 st2)
            refine ⟨⟨t, _, _, rfl, HSN.out, HNN.out, by rw [List.length_set]; exact hnl, HO2.out, ?_, ?_, ?_⟩, by simp [intOf]; omega⟩
            · exact kstep ST2.out HO.out (by decide) HN.out
            · exact kstep ST2.out HO.out (by decide) HD.out
            · exact (HB.out.trans ((below_alloc _ _).mono HB.out.size)).trans (ST2.out.below (Nat.le_trans HB.out.size (below_alloc _ _).size) (fun k hk => (HO.out.lt k hk).1))
          | false =>
            rw [hdv] at cd
            go_wp2_with fail
            refine ⟨⟨rfl, rfl, t + 1, by go_num, by omega, by omega, fun q h1 h2 => ?_, by first | rfl | trivial⟩, by simp [intOf]; omega⟩
            by_cases e : q = t
            · subst e; rw [List.getElem?_eq_getElem hdt, hdv]
            · exact HQ.out q h1 (by omega)
    · have hlt' : ¬ (p : Int) < (l.length : Int) := by omega
      obtain rfl : p = l.length := by omega
      have HBL := hidIt HK.out.all
      clear hlt hpl1 HD
      have HNB2 := HNB
      by_cases hbl : bl = []
      · subst hbl
        go_wp2_with fail
        go_loopw [10, 51] (fun _ i wx => i = .int .i64 0 ∧ wx = wr) (fun _ _ _ => 0)
        case atStart => exact ⟨rfl, rfl⟩
        case round =>
          obtain ⟨rfl, hww⟩ := hrel
          cases hww
          go_wp2_with fail
          unfold Exit.noGoto
          dsimp only
          go_ret
          exact ⟨aob, capb, [], nu, rfl, HBL.out, HNB.out, hnl, HB.out, .inl rfl⟩
      · obtain ⟨gb, rfl, hgb⟩ : ∃ gb, aob = some ⟨gb, 0, none⟩ ∧ w.heap.size ≤ gb := by
          rcases HO.out.2 with ⟨_, h0⟩ | ⟨g, cap, cur, e, hB, _⟩
          · exact absurd (List.length_eq_zero_iff.1 h0) hbl
          · cases e; exact ⟨g, rfl, hB⟩
        obtain ⟨NX, hNX⟩ : ∃ NX : Nat × Nat → List Int, NX = (fun x => (nextZ l ((x.2 : Int) - 1)).map (fun m => (nu[m.toNat]?).getD 0)) := ⟨_, rfl⟩
        obtain ⟨cs0, hkl, hbc, hbm⟩ := KL.begin (nx := NX) HO.out
        have HKL := hidIt hkl
        have HBK := hidIt HK.out.lt.2.2
        have HNXE := hidIt hNX
        clear hkl hNX HK HNB2
        go_wp2_with fail
        go_loopw [10, 51] (fun _ ix wx => ∃ (i : Nat) (cs : Array Value), ix = .int .i64 (i : Int) ∧ i ≤ bl.length ∧ KL wx gb bl NX i cs ∧ wx.heap[gn]? = some (.cells (ncells nu).toArray 3 (0, 0)) ∧ Below w.heap.size w wx) (fun _ ix _ => bl.length - (intOf ix).toNat)
        case atStart => exact ⟨0, cs0, rfl, Nat.zero_le _, HKL.out, HN.out, HB.out⟩
        case round =>
          clear HKL HN HB HO hz
          obtain ⟨i, cs, rfl, hib, hkl, hn, hb⟩ := hrel
          have HKL := hidIt hkl
          have HN := hidIt hn
          have HB := hidIt hb
          clear hkl hn hb
          generalize wr = wo at *
          have hz := HB.out.size
          by_cases hlt : i < bl.length
          · have hlt' : (i : Int) < (bl.length : Int) := by omega
            obtain ⟨x, hx⟩ : ∃ x, bl[i]? = some x := ⟨bl[i], List.getElem?_eq_getElem hlt⟩
            obtain ⟨e0, e1, u0, e2⟩ := HKL.out.fst i x hx
            have k1 := cell_row HKL.out.row _ e1
            have k2 := cell_row HKL.out.row _ e2
            have hx2 := HBK.out x (List.mem_of_getElem? hx)
            have HX := hidIt hx
            have GN1 := hidIt (GN.out ((x.2 : Int) - 1) wo HB.out)
            have HNr : Hid (∀ y, y ∈ nextZ l ((x.2 : Int) - 1) → 0 ≤ y ∧ y < l.length) := fun y hy => nextZ_range hy
            have hNl := nextZ_len l ((x.2 : Int) - 1)
            have HNX : Hid (NX x = (nextZ l ((x.2 : Int) - 1)).map (fun m => (nu[m.toNat]?).getD 0)) := by show _ = _; rw [HNXE.out]
            generalize nextZ l ((x.2 : Int) - 1) = L at *
            have hxb : (x.2 : Int) ≤ 1000000000000 := by omega
            have hx20 : (0 : Int) < (x.2 : Int) := by omega
            generalize (x.2 : Int) = X2 at *
            clear hx e0 e1 e2 hx2
            go_upto_region 16 with (go_at_call 10; refine GN1.out.mono ?_; rintro e w1 ⟨vn, rfl, hn1, hb1⟩; obtain ⟨aon, capn, rfl⟩ := own_slice hn1; have HO1 := hidIt hn1; have HB1 := hidIt hb1; have k3 := cell_later hb1 k2; have HR1 := hidIt ((hb1.block _ (Array.getElem?_eq_some_iff.1 HKL.out.row).1).trans HKL.out.row); have kf := frozen_row HR1.out; clear hn1 hb1 GN1 k1 k2)
            have HRs := hidIt (set_row (j := i * 3 + 2) (u := .slice aon L.length capn) HR1.out)
            have HOs := hidIt (own_set (u := .slice aon L.length capn) (o := i * 3 + 2) HO1.out HR1.out (by decide))
            have hgbn : gb ≠ gn := other_block HKL.out.row HN.out (by decide)
            have HNs : Hid ((w1.setCell ⟨gb, i * 3 + 2, none⟩ (.slice aon L.length capn)).heap[gn]? = some (.cells (ncells nu).toArray 3 (0, 0))) := by
              show _ = _
              rw [Below.heap_setCell _ _ _ _ (fun h => hgbn h.symm), HB1.out.block _ (Array.getElem?_eq_some_iff.1 HN.out).1]
              exact HN.out
            have HKs := hidIt ((Kg.of_below (g := gb) HB1.out (Nat.le_refl _)).set (o := i * 3 + 2) (u := .slice aon L.length capn) (.inr rfl))
            have hgnl := (Array.getElem?_eq_some_iff.1 HN.out).1
            have hgbl := (Array.getElem?_eq_some_iff.1 HKL.out.row).1
            clear k3 kf HR1 HO1 HN
            generalize w1.setCell ⟨gb, i * 3 + 2, none⟩ (.slice aon L.length capn) = ws at *
            have hcsz : i * 3 + 2 < cs.size := by
              obtain ⟨_, _, u, h3⟩ := HKL.out.fst i x HX.out
              exact (Array.getElem?_eq_some_iff.1 h3).1
            have k4 : ws.cell? ⟨gb, i * 3 + 2, none⟩ = some (.slice aon L.length capn) := cell_row HRs.out _ (Array.getElem?_setIfInBounds_self_of_lt hcsz)
            go_wp2_with fail
            go_loopw [11, 12, 72] (fun _ _ jx wx => ∃ j : Nat, jx = .int .i64 (j : Int) ∧ j ≤ L.length ∧ NOwn wx wo.heap.size (.slice aon L.length capn) (mixL (fun m => (nu[m.toNat]?).getD 0) L j) ∧ wx.heap[gb]? = some (.cells (cs.setIfInBounds (i * 3 + 2) (.slice aon L.length capn)) 34 (0, 0)) ∧ wx.heap[gn]? = some (.cells (ncells nu).toArray 3 (0, 0)) ∧ Kg wo.heap.size gb wo wx) (fun _ _ jx _ => L.length - (intOf jx).toNat)
            case atStart => exact ⟨0, rfl, Nat.zero_le _, by rw [show mixL (fun m => (nu[m.toNat]?).getD 0) L 0 = L from by simp [mixL]]; exact HOs.out, HRs.out, HNs.out, HKs.out⟩
            case round =>
              clear HOs HRs HNs HKs k4
              obtain ⟨j, rfl, hjl, ho, hr, hn, hk⟩ := hrel
              have HO := hidIt ho
              have HR := hidIt hr
              have HN := hidIt hn
              have HK := hidIt hk
              clear ho hr hn hk
              by_cases hltj : j < L.length
              · have hltj' : (j : Int) < (L.length : Int) := by omega
                obtain ⟨y, hy⟩ : ∃ y, L[j]? = some y := ⟨L[j], List.getElem?_eq_getElem hltj⟩
                obtain ⟨hy0, hy1⟩ := HNr.out y (List.mem_of_getElem? hy)
                obtain ⟨m, rfl⟩ := Int.eq_ofNat_of_zero_le hy0
                obtain ⟨g', off', e', cy⟩ := HO.out.view.row (mixL_get hy)
                obtain ⟨g2, cap2', cs2, e2, hB2, hg2, hc21, hc22, hc23, hc24⟩ := HO.out.block (by intro h; have := mixL_len (fun m => (nu[m.toNat]?).getD 0) L j; rw [h] at this; simp at this; omega)
                rw [mixL_len] at e2
                cases e'
                cases e2
                rw [Nat.zero_add] at cy
                have hml : m < nu.length := by omega
                have cm : wr.cell? ⟨gn, m, none⟩ = some (.int .i64 nu[m]) := cell_row HN.out m (by simp [ncells, hml])
                have k4 : wr.cell? ⟨gb, i * 3 + 2, none⟩ = some (.slice (some ⟨g', 0, none⟩) L.length capn) := cell_row HR.out _ (Array.getElem?_setIfInBounds_self_of_lt hcsz)
                have cf := frozen_row hg2
                have HE : Hid ((nu[(m : Int).toNat]?).getD 0 = nu[m]) := by show _ = _; simp [hml]
                have HY := hidIt hy
                have HS := hidIt (NOwn.set (k := j) nu[m] HO.out (by rw [mixL_len]))
                have hg2n : g' ≠ gn := by omega
                have hg2b : g' ≠ gb := by omega
                have hml' : (m : Int) < (l.length : Int) := by omega
                have HR2 : Hid ((wr.setCell ⟨g', j, none⟩ (.int .i64 nu[m])).heap[gb]? = some (.cells (cs.setIfInBounds (i * 3 + 2) (.slice (some ⟨g', 0, none⟩) L.length capn)) 34 (0, 0))) := by
                  show _ = _
                  rw [Below.heap_setCell _ _ _ _ (fun h => hg2b h.symm)]; exact HR.out
                have HN2 : Hid ((wr.setCell ⟨g', j, none⟩ (.int .i64 nu[m])).heap[gn]? = some (.cells (ncells nu).toArray 3 (0, 0))) := by
                  show _ = _
                  rw [Below.heap_setCell _ _ _ _ (fun h => hg2n h.symm)]; exact HN.out
                have HK2 := hidIt (HK.out.set (k := g') (o := j) (u := .int .i64 nu[m]) (.inl hB2))
                have hcl : L.length ≤ capn := by rw [mixL_len] at hc21; exact hc21
                have hcm' : capn ≤ 9223372036854775807 := hc22
                generalize nu[m] = NM at *
                clear hy hg2 hc24 hc23 hc21 hc22 HO HR HN HK
                go_wp2_with fail
                go_region
                go_wp2_with fail
                refine ⟨⟨j + 1, by go_num, by omega, ?_, HR2.out, HN2.out, HK2.out.drewN _⟩, by simp [intOf]; omega⟩
                rw [← mixL_set HY.out]
                rw [HE.out]
                exact HS.out
              · have hltj' : ¬ (j : Int) < (L.length : Int) := by omega
                obtain rfl : j = L.length := by omega
                have HF : Hid (mixL (fun m => (nu[m.toNat]?).getD 0) L L.length = NX x) := by show _ = _; rw [HNX.out]; simp [mixL]
                have HO2 := hidIt HO.out
                rw [HF.out] at HO2
                go_wp2_with fail
                refine ⟨⟨i + 1, _, by go_num, by omega, HKL.out.next HX.out HK.out HR.out HO2.out, HN.out, HB.out.trans (HK.out.below hz hgb)⟩, by simp [intOf]; omega⟩
          · have hlt' : ¬ (i : Int) < (bl.length : Int) := by omega
            obtain rfl : i = bl.length := by omega
            go_wp2_with fail
            (first | (unfold Exit.noGoto; dsimp only) | skip)
            go_ret
            refine ⟨some ⟨gb, 0, none⟩, capb, bl, nu, rfl, HBL.out, HNB.out, hnl, HB.out, .inr ⟨gb, cs, rfl, ?_⟩⟩
            rw [← HNXE.out]
            exact HKL.out
end Go.Proofs.Ytbmfkbgncjldjab
namespace Go.Proofs.Ytbmfkbgncjldjab
open Go.RowKit

set_option maxRecDepth 8000 in
set_option maxHeartbeats 2000000 in
theorem nsame_any (v u : Value) (l : List Int) (w : World) (hv : NView w v l) (hu : NView w u l) :
    Calls Try.prog 40 #[v, u] w fun e w' => e = .returned (.bool true) ∧ ∃ q, w' = w.drewN q := by
  have HV := hidIt hv
  have HU := hidIt hu
  obtain ⟨ao, cap, rfl, hc, hm, _⟩ := hv
  obtain ⟨ao2, cap2, rfl, hc2, hm2, _⟩ := hu
  unfold maxLen at hm hm2
  go_enter Try.func40, Try.ntmps40
  go_wp2
  go_loopw [5] (fun i wr => ∃ k q : Nat, i = .int .i64 (k : Int) ∧ k ≤ l.length ∧ wr = w.drewN q) (fun i _ => l.length - (intOf i).toNat)
  case atStart => exact ⟨0, 0, rfl, Nat.zero_le _, rfl⟩
  case round =>
    obtain ⟨k, q, rfl, hk, rfl⟩ := hrel
    by_cases hlt : k < l.length
    · have hlt' : (k : Int) < (l.length : Int) := by omega
      obtain ⟨x, hx⟩ : ∃ x, l[k]? = some x := ⟨l[k], List.getElem?_eq_getElem hlt⟩
      obtain ⟨g, off, rfl, c0⟩ := HV.out.row hx
      obtain ⟨g', off', rfl, d0⟩ := HU.out.row hx
      clear hx
      go_wp2
      go_quiet (fail)
      go_wp2
      exact ⟨⟨k + 1, _, by go_num, by omega, rfl⟩, by simp [intOf]; omega⟩
    · have hlt' : ¬ (k : Int) < (l.length : Int) := by omega
      go_wp2
      go_ret
      exact ⟨rfl, _, rfl⟩
def BView (w : World) (v : Value) (l : List Bool) : Prop :=
  ∃ ao cap, v = .slice ao l.length cap ∧ l.length ≤ cap ∧ cap ≤ maxLen ∧ (l = [] ∨ ∃ g off, ao = some ⟨g, off, none⟩ ∧ ∀ (j : Nat) (x : Bool), l[j]? = some x → w.cell? ⟨g, off + j, none⟩ = some (.bool x))
theorem BView.below {w w' : World} {v : Value} {l : List Bool} (h : BView w v l) (hb : Below w.heap.size w w') : BView w' v l := by
  obtain ⟨ao, cap, e, hc, hm, hl⟩ := h
  refine ⟨ao, cap, e, hc, hm, ?_⟩
  rcases hl with h | ⟨g, off, e, hl⟩
  · exact .inl h
  · exact .inr ⟨g, off, e, fun j x hj => cell_later hb (hl j x hj)⟩
theorem BView.row {w : World} {ao : Option Addr} {n cap : Nat} {l : List Bool} (h : BView w (.slice ao n cap) l) {j : Nat} {x : Bool} (hj : l[j]? = some x) : ∃ g off, ao = some ⟨g, off, none⟩ ∧ w.cell? ⟨g, off + j, none⟩ = some (.bool x) := by
  obtain ⟨ao', cap', e, hc, hm, hl⟩ := h
  cases e
  rcases hl with rfl | ⟨g, off, rfl, hl⟩
  · simp at hj
  · exact ⟨g, off, rfl, hl j x hj⟩
set_option maxRecDepth 8000 in
set_option maxHeartbeats 2000000 in
theorem bsame_any (v u : Value) (l : List Bool) (w : World) (hv : BView w v l) (hu : BView w u l) :
    Calls Try.prog 26 #[v, u] w fun e w' => e = .returned (.bool true) ∧ ∃ q, w' = w.drewN q := by
  have HV := hidIt hv
  have HU := hidIt hu
  obtain ⟨ao, cap, rfl, hc, hm, _⟩ := hv
  obtain ⟨ao2, cap2, rfl, hc2, hm2, _⟩ := hu
  unfold maxLen at hm hm2
  go_enter Try.func26, Try.ntmps26
  go_wp2
  go_loopw [5] (fun i wr => ∃ k q : Nat, i = .int .i64 (k : Int) ∧ k ≤ l.length ∧ wr = w.drewN q) (fun i _ => l.length - (intOf i).toNat)
  case atStart => exact ⟨0, 0, rfl, Nat.zero_le _, rfl⟩
  case round =>
    obtain ⟨k, q, rfl, hk, rfl⟩ := hrel
    by_cases hlt : k < l.length
    · have hlt' : (k : Int) < (l.length : Int) := by omega
      obtain ⟨x, hx⟩ : ∃ x, l[k]? = some x := ⟨l[k], List.getElem?_eq_getElem hlt⟩
      obtain ⟨g, off, rfl, c0⟩ := HV.out.row hx
      obtain ⟨g', off', rfl, d0⟩ := HU.out.row hx
      clear hx
      go_wp2
      go_quiet (fail)
      go_wp2
      exact ⟨⟨k + 1, _, by go_num, by omega, rfl⟩, by simp [intOf]; omega⟩
    · have hlt' : ¬ (k : Int) < (l.length : Int) := by omega
      go_wp2
      go_ret
      exact ⟨rfl, _, rfl⟩
end Go.Proofs.Ytbmfkbgncjldjab
namespace Go.Proofs.Ytbmfkbgncjldjab
open Go.RowKit

set_option maxRecDepth 8000 in
set_option maxHeartbeats 1000000 in
theorem inst_any (p op a : Int) (w : World) : Calls Try.prog 24 #[.int .i64 p, .int .i64 op, .int .i64 a] w fun e w' => e = .returned (.agg #[.int .i64 p, .int .i64 op, .int .i64 a, .int .i64 0]) ∧ Below w.heap.size w w' := by
  go_enter Try.func24, Try.ntmps24
  go_wp2
  exact bodyPost_ret (results_cell_row rfl _ _ w.heap.size 37 _ (0, 0) _ rfl (heap_alloc_new w _) Try.underlying37 rfl (by kernel_rfl)) rfl ⟨rfl, below_alloc _ _⟩
def PV (w : World) (v : Value) (bl : List (Nat × Nat)) (nx : Nat × Nat → List Int) : Prop :=
  ∃ ao cap, v = .slice ao bl.length cap ∧ bl.length ≤ 1000000000000 ∧ ∀ (j : Nat) (x : Nat × Nat), bl[j]? = some x → ∃ g off u, ao = some ⟨g, off, none⟩ ∧ w.cell? ⟨g, off + j * 3, none⟩ = some (.int .i64 (x.1 : Int)) ∧ w.cell? ⟨g, off + j * 3 + 1, none⟩ = some (.int .i64 (x.2 : Int)) ∧ w.cell? ⟨g, off + j * 3 + 2, none⟩ = some u ∧ NView w u (nx x)
theorem NView.drewN {w : World} {v : Value} {l : List Int} (h : NView w v l) (q : Nat) : NView (w.drewN q) v l := h
set_option maxRecDepth 8000 in
set_option maxHeartbeats 4000000 in
theorem same_any (v u : Value) (bl : List (Nat × Nat)) (nx : Nat × Nat → List Int) (w : World) (hv : PV w v bl nx) (hu : PV w u bl nx) :
    Calls Try.prog 25 #[v, u] w fun e w' => e = .returned (.bool true) ∧ ∃ q, w' = w.drewN q := by
  obtain ⟨ao, cap, rfl, hb, hv⟩ := hv
  obtain ⟨ao2, cap2, rfl, -, hu⟩ := hu
  have HV := hidIt hv
  have HU := hidIt hu
  clear hv hu
  go_enter Try.func25, Try.ntmps25
  go_wp2
  go_loopw [5] (fun i wr => ∃ k q : Nat, i = .int .i64 (k : Int) ∧ k ≤ bl.length ∧ wr = w.drewN q) (fun i _ => bl.length - (intOf i).toNat)
  case atStart => exact ⟨0, 0, rfl, Nat.zero_le _, rfl⟩
  case round =>
    obtain ⟨k, q, rfl, hk, rfl⟩ := hrel
    by_cases hlt : k < bl.length
    · have hlt' : (k : Int) < (bl.length : Int) := by omega
      obtain ⟨x, hx⟩ : ∃ x, bl[k]? = some x := ⟨bl[k], List.getElem?_eq_getElem hlt⟩
      obtain ⟨g, off, va, rfl, c0, c1, c2, na⟩ := HV.out k x hx
      obtain ⟨g', off', vb, rfl, d0, d1, d2, nb⟩ := HU.out k x hx
      obtain ⟨W, hW⟩ : ∃ W, W = w.drewN q := ⟨_, rfl⟩
      have c0 : W.cell? ⟨g, off + k * 3, none⟩ = some (.int .i64 (x.1 : Int)) := by rw [hW]; exact c0
      have c1 : W.cell? ⟨g, off + k * 3 + 1, none⟩ = some (.int .i64 (x.2 : Int)) := by rw [hW]; exact c1
      have c2 : W.cell? ⟨g, off + k * 3 + 2, none⟩ = some va := by rw [hW]; exact c2
      have d0 : W.cell? ⟨g', off' + k * 3, none⟩ = some (.int .i64 (x.1 : Int)) := by rw [hW]; exact d0
      have d1 : W.cell? ⟨g', off' + k * 3 + 1, none⟩ = some (.int .i64 (x.2 : Int)) := by rw [hW]; exact d1
      have d2 : W.cell? ⟨g', off' + k * 3 + 2, none⟩ = some vb := by rw [hW]; exact d2
      have na : NView W va (nx x) := by rw [hW]; exact na
      have nb : NView W vb (nx x) := by rw [hW]; exact nb
      rw [← hW]
      have HW := hidIt hW
      have GS := hidIt (fun n => nsame_any va vb (nx x) (W.drewN n) (na.drewN n) (nb.drewN n))
      obtain ⟨aoa, capa, rfl, -⟩ := na
      obtain ⟨aob, capb, rfl, -⟩ := nb
      clear hx hW
      go_wp2
      go_quiet ((go_at_call 40; exact Calls.quiet_of (GS.out _)))
      go_wp2
      refine ⟨⟨k + 1, q + nq, by go_num, by omega, ?_⟩, by simp [intOf]; omega⟩
      rw [HW.out, World.drewN_drewN]
    · have hlt' : ¬ (k : Int) < (bl.length : Int) := by omega
      go_wp2
      go_ret
      exact ⟨rfl, _, rfl⟩
end Go.Proofs.Ytbmfkbgncjldjab
namespace Go.Proofs.Ytbmfkbgncjldjab
open Go.RowKit

set_option maxRecDepth 8000 in
set_option maxHeartbeats 4000000 in
theorem check_any (v u f : Value) (l : List IN) (h : List HN) (fr : List FN) (w : World) (hv : IView w v l) (hu : HView w u h) (hf : FView w f fr) (hp : Places l) :
    Calls Try.prog 6 #[v, u, f] w fun e w' => Ans (checkZ l h fr) e ∧ Below w.heap.size w w' := by
  have HU := hidIt hu
  have GC := hidIt (checkCode_any v l w hv)
  have GF := hidIt (fun W (hb : Below w.heap.size w W) => checkFrames_any v f l fr W (hv.below hb) (hf.below hb))
  have hC : (codeZ l).1 = 0 → 0 < l.length := by
    intro h
    rcases Nat.eq_zero_or_pos l.length with h0 | h0
    · rw [List.length_eq_zero_iff.1 h0] at h; cases h
    · exact h0
  have GR := hidIt (fun (x : HN) W (h0 : 0 < l.length) (hb : Below w.heap.size w W) => rightH_any v l x W (hv.below hb) h0 hp)
  unfold HN.val at GR
  obtain ⟨ao0, cap0, rfl, -⟩ := hv
  obtain ⟨ao, cap, rfl, hc, hm, _⟩ := hu
  obtain ⟨ao2, cap2, rfl, -⟩ := hf
  unfold maxLen at hm
  have HZ : Hid (checkZ l h fr = if (codeZ l).1 ≠ 0 then codeZ l else handF l (framF l none fr) h) := rfl
  generalize checkZ l h fr = Z at *
  unfold Ans at GC GF
  generalize framF l none fr = FZ at *
  generalize hcz : codeZ l = CZ at *
  obtain ⟨q1, q2⟩ := CZ
  clear hcz hp
  by_cases hq : q1 = 0
  · have HL := hidIt (hC hq)
    subst hq
    rw [if_neg (by simp)] at HZ
    have HA0 : Hid (handF l FZ (h.drop 0) = Z) := HZ.out.symm
    clear hC HZ
    go_enter Try.func6, Try.ntmps6
    go_wp2_with (go_at_call 16; refine GC.out.mono ?_; rintro e w1 ⟨rfl, hb1⟩; have HB1 := hidIt hb1; clear hb1)
    go_loopw [11, 23] (fun _ i wr => ∃ k : Nat, k ≤ h.length ∧ i = .int .i64 (k : Int) ∧ Below w.heap.size w wr ∧ handF l FZ (h.drop k) = Z) (fun _ i _ => h.length - (intOf i).toNat)
    case atStart => exact ⟨0, Nat.zero_le _, rfl, HB1.out, HA0.out⟩
    case round =>
      clear HB1 HA0
      obtain ⟨k, hk, rfl, hb, hA⟩ := hrel
      have HB := hidIt hb
      have HA := hidIt hA
      have hz := hb.size
      clear hb hA
      by_cases hlt : k < h.length
      · have hlt' : (k : Int) < (h.length : Int) := by omega
        obtain ⟨x, hx⟩ : ∃ x, h[k]? = some x := ⟨h[k], List.getElem?_eq_getElem hlt⟩
        obtain ⟨g, off, rfl, c0, c1, c2, c3⟩ := (HU.out.below HB.out).row hx
        rw [drop_at hx, handF_cons] at HA
        have hA1 := below_alloc wr (.cells #[.int .i64 x.f, .int .i64 x.t, .int .i64 x.a, .string x.ty] 44)
        have HB1 := hidIt (HB.out.trans (hA1.mono HB.out.size))
        have hX := hbox_at wr x
        have G2 := hidIt (GR.out x _ HL.out HB1.out)
        obtain ⟨d0, d1, d2, d3⟩ := hX
        clear hx HU hA1
        cases hr : handB l x with
        | true =>
          rw [hr] at G2 HA
          go_wp2_with (first | (go_at_call 17; refine G2.out.mono ?_; rintro e w1 ⟨rfl, hb1⟩))
          exact ⟨⟨k + 1, by omega, by go_num, HB1.out.trans (hb1.mono HB1.out.size), by simpa using HA.out⟩, by simp [intOf]; omega⟩
        | false =>
          rw [hr] at G2 HA
          go_wp2_with (first | (go_at_call 17; refine G2.out.mono ?_; rintro e w1 ⟨rfl, hb1⟩; have e0 := cell_later hb1 d0))
          go_quiet (fail)
          go_wp2
          go_ret2
          refine ⟨?_, below_drewN (HB1.out.trans (hb1.mono HB1.out.size)) _⟩
          rw [← (show (16, x.f) = Z by simpa using HA.out)]
          rfl
      · have hlt' : ¬ (k : Int) < (h.length : Int) := by omega
        obtain rfl : k = h.length := by omega
        rw [List.drop_length] at HA
        have HA2 : Hid (FZ = Z) := HA.out
        clear HA
        go_wp2_with (first | (go_at_call 18; refine (GF.out _ HB.out).mono ?_; rintro e w1 ⟨rfl, hb1⟩))
        go_ret2
        refine ⟨?_, HB.out.trans (hb1.mono HB.out.size)⟩
        rw [← HA2.out]
        rfl
  · have hq' : (q1 == 0) = false := by simpa using hq
    rw [if_pos (by simpa using hq)] at HZ
    clear hC
    go_enter Try.func6, Try.ntmps6
    go_wp2_with (go_at_call 16; refine GC.out.mono ?_; rintro e w1 ⟨rfl, hb1⟩; have HB1 := hidIt hb1; clear hb1)
    go_ret2
    refine ⟨?_, HB1.out⟩
    rw [HZ.out]
    rfl
end Go.Proofs.Ytbmfkbgncjldjab
