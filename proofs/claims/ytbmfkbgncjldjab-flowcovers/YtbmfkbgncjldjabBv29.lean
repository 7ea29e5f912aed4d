/- Texts FO FP. -/
import Derived.Test.YtbmfkbgncjldjabBv28
namespace Go.Proofs.Ytbmfkbgncjldjab
open Go.RowKit

theorem NOwn.take {w : World} {B : Nat} {ao : Option Addr} {m cap : Nat} {l : List Int} {x : Int} (h : NOwn w B (.slice ao (m + 1) cap) (l ++ [x])) (hm : l.length = m) : NOwn w B (.slice ao m cap) l := by
  subst hm
  obtain ⟨g, cap', cs, e, hB, hg, h1, h2, h3, h4⟩ := h.block (by simp)
  simp only [List.length_append, List.length_singleton] at e
  cases e
  have e3 : cs.size = cap := by
    rcases h.2 with ⟨e, _⟩ | ⟨g', cap', cur, e, _, hg', _, _, h5, _⟩
    · cases e
    · simp only [List.length_append, List.length_singleton] at e
      cases e
      rw [hg] at hg'
      cases hg'
      omega
  exact NOwn.of_block hB hg rfl (by simp at h1; omega) h2 e3 fun j y hj => h4 j y (by rw [List.getElem?_append_left (List.getElem?_eq_some_iff.1 hj).1]; exact hj)
theorem NOwn.last {w : World} {B : Nat} {ao : Option Addr} {m cap : Nat} {l : List Int} {x : Int} (h : NOwn w B (.slice ao (m + 1) cap) (l ++ [x])) (hm : l.length = m) : ∃ g, ao = some ⟨g, 0, none⟩ ∧ w.cell? ⟨g, m, none⟩ = some (.int .i64 x) ∧ m + 1 ≤ cap ∧ cap ≤ 9223372036854775807 := by
  subst hm
  obtain ⟨g, cap', cs, e, hB, hg, h1, h2, h3, h4⟩ := h.block (by simp)
  simp only [List.length_append, List.length_singleton] at e
  cases e
  refine ⟨g, rfl, cell_row hg _ (h4 l.length x (by simp)), by simpa using h1, h2⟩
structure Apart (vs vn : Value) (w : World) (l : List Int) (gl bs : Nat) : Prop where
  view : NView w vn l
  blk : ∀ (g off n c : Nat), vn = .slice (some ⟨g, off, none⟩) n c → l ≠ [] → g < w.heap.size ∧ some g ≠ vs.ownBlock ∧ g ≠ gl ∧ g ≠ bs
theorem Apart.rk {vs vs' vn : Value} {w w' : World} {l : List Int} {gl bs : Nat} (h : Apart vs vn w l gl bs) (k : Rk gl bs vs w vs' w') : Apart vs' vn w' l gl bs := by
  obtain ⟨⟨ao, cap, rfl, hc, hm, hl⟩, hb⟩ := h
  refine ⟨⟨ao, cap, rfl, hc, hm, ?_⟩, fun g off n c e hne => ?_⟩
  · rcases hl with h | ⟨g, off, rfl, hl⟩
    · exact .inl h
    · by_cases h0 : l = []
      · exact .inl h0
      · obtain ⟨h1, h2, h3, h4⟩ := hb g off _ _ rfl h0
        exact .inr ⟨g, off, rfl, fun j x hj => (World.cell?_of_block (a := ⟨g, off + j, none⟩) (k.block g h1 h3 h4 h2)).trans (hl j x hj)⟩
  · obtain ⟨h1, h2, h3, h4⟩ := hb g off n c e hne
    refine ⟨Nat.lt_of_lt_of_le h1 k.size, ?_, h3, h4⟩
    rcases k.moved with e1 | ⟨g1, e1, hg1⟩
    · rw [e1]; exact h2
    · rw [e1]; intro e2; cases e2; omega
theorem Apart.begin {vs vn : Value} {w w' : World} {l st : List Int} {gl bs B bl bb : Nat} {v : Value} {li : List IN} {r : List Bool} (hp : RcP B bl bb gl bs v li r vs st w) (hn : NOwn w' w.heap.size vn l) : Apart vs vn w' l gl bs := by
  refine ⟨hn.view, fun g off n c e hne => ?_⟩
  obtain ⟨g', cap, cs, e', hB, hg, _⟩ := hn.block hne
  rw [e'] at e
  cases e
  refine ⟨(Array.getElem?_eq_some_iff.1 hg).1, fun e => ?_, ?_, ?_⟩
  · have := (hp.own.lt _ e.symm).2
    omega
  · have := (Array.getElem?_eq_some_iff.1 hp.row).1; omega
  · have := (Array.getElem?_eq_some_iff.1 hp.stk).1; omega
theorem RcP.setS {B bl bb gl bs : Nat} {v : Value} {l : List IN} {r : List Bool} {vs vs' : Value} {st st' : List Int} {w : World} (h : RcP B bl bb gl bs v l r vs st w) (ho : NOwn w B vs' st') : RcP B bl bb gl bs v l r vs' st' (w.setCell ⟨bs, 0, none⟩ vs') := by
  refine ⟨?_, ?_, ?_, ?_, own_set ho h.stk (by decide), h.len, h.hgl, h.hbs⟩
  · rw [Below.heap_setCell _ _ _ _ (other_block h.box h.stk (by decide))]; exact h.box
  · rw [Below.heap_setCell _ _ _ _ (other_block h.bit h.stk (by decide))]; exact h.bit
  · rw [Below.heap_setCell _ _ _ _ (other_block h.row h.stk (by decide))]; exact h.row
  · rw [set_row h.stk]; simp
theorem rch_cnt (r : List Bool) (st : List Int) (m : Int) : 2 * cntF (rchZ (r, st) m).1 + (rchZ (r, st) m).2.length ≤ 2 * cntF r + st.length := by
  unfold rchZ
  simp only
  split
  · rename_i hc
    have hcnt := cntF_set hc.2
    show 2 * cntF (r.set m.toNat true) + (st ++ [m]).length ≤ _
    rw [List.length_append, List.length_singleton]
    omega
  · exact Nat.le_refl _
theorem nextZ_len (l : List IN) (n : Int) : (nextZ l n).length ≤ 2 := by
  unfold nextZ
  split
  · simp
  · split
    · unfold nextL
      split
      · split
        · simp
        · split
          · simp
          · split <;> simp
      · split <;> simp
    · simp
theorem cntF_rep (n : Nat) : cntF (List.replicate n false) = n := by simp [cntF]
def Hup (l : List IN) (h : List HN) (i : IN) (j : Nat) (r : List Bool) : Prop := ∀ (q : Nat) (x : HN) (m : Nat), q < j → h[q]? = some x → x.f ≤ i.pl → i.pl < x.t → findZ l x.a = (m : Int) → r[m]? = some true
set_option maxRecDepth 8000 in
set_option maxHeartbeats 8000000 in
theorem reach_any (v u : Value) (l : List IN) (h : List HN) (w : World) (hv : IView w v l) (hu : HView w u h) (hlen : l.length ≤ 1000000000000) :
    Calls Try.prog 12 #[v, u] w fun e w' => ∃ g r, e = .returned (.slice (some ⟨g, 0, none⟩) l.length l.length) ∧ w.heap.size ≤ g ∧ w'.heap[g]? = some (.cells (bcellsB r) 4 (0, 0)) ∧ ReachIs l h r ∧ Below w.heap.size w w' := by
  have HV := hidIt hv
  have HU := hidIt hu
  have GN := hidIt (fun (n : Int) W (hb : Below w.heap.size w W) => next_any v l n W (hv.below hb))
  have GF := hidIt (fun (p : Int) W (hb : Below w.heap.size w W) => find_any v l p W (hv.below hb))
  have GL := hidIt (fun (gl bs : Nat) (r : List Bool) (vs : Value) (st : List Int) (n : Int) W (hp : RcP w.heap.size w.heap.size (w.heap.size + 1 + 1) gl bs v l r vs st W) => rch_any w.heap.size w.heap.size (w.heap.size + 1 + 1) gl bs v l r vs st n W hp (by obtain ⟨ao, cap, e, -⟩ := hv; exact ⟨ao, cap, e⟩))
  obtain ⟨i0, hi, hz0, hz1, hz2⟩ := info_parts Try.infoB
  obtain ⟨ao, cap, rfl, hc, hm, _⟩ := hv
  obtain ⟨ao2, cap2, rfl, hc2, hm2, _⟩ := hu
  unfold maxLen at hm hm2
  have hgl : w.heap.size ≤ w.heap.size + 1 := Nat.le_succ _
  have hbs : w.heap.size ≤ w.heap.size + 1 + 1 + 1 := by omega
  have hA1 := below_alloc w (.cells #[.slice ao l.length cap] 23)
  have HP : Hid (RcP w.heap.size w.heap.size (w.heap.size + 1 + 1) (w.heap.size + 1) (w.heap.size + 1 + 1 + 1) (.slice ao l.length cap) l (List.replicate l.length false) (.slice none 0 0) [] ((((w.alloc (.cells #[.slice ao l.length cap] 23)).alloc (.cells (madeCells #[.bool false] l.length) 4)).alloc (.cells #[.slice (some ⟨w.heap.size + 1, 0, none⟩) l.length l.length] 41)).alloc (.cells #[.slice none 0 0] 22))) := by
    refine ⟨?_, ?_, ?_, ?_, NOwn.nil _ _, by simp, hgl, hbs⟩
    · rw [(below_alloc _ _).block _ (by simp; omega), (below_alloc _ _).block _ (by simp; omega), (below_alloc _ _).block _ (by simp)]; exact heap_alloc_new _ _
    · rw [(below_alloc _ _).block _ (by simp)]; exact heap_alloc_new' (by simp)
    · rw [(below_alloc _ _).block _ (by simp), (below_alloc _ _).block _ (by simp), ← made_bools]; exact heap_alloc_new' (by simp)
    · exact heap_alloc_new' (by simp)
  have HB : Hid (Below w.heap.size w ((((w.alloc (.cells #[.slice ao l.length cap] 23)).alloc (.cells (madeCells #[.bool false] l.length) 4)).alloc (.cells #[.slice (some ⟨w.heap.size + 1, 0, none⟩) l.length l.length] 41)).alloc (.cells #[.slice none 0 0] 22))) := (((hA1.alloc (by simp) _).alloc (by simp; omega) _).alloc (by simp only [World.alloc, Array.size_push]; omega) _)
  clear hA1
  go_enter Try.func12, Try.ntmps12
  go_upto_region 4 with (at_make; refine wpList_make_row _ rfl _ _ 41 rfl 4 i0 (.bool false) Try.underlying41 hi hz0 hz1 rfl _ _ l.length rfl rfl (by rw [hz2]; omega) (by omega) ?_)
  generalize ((((w.alloc (.cells #[.slice ao l.length cap] 23)).alloc (.cells (madeCells #[.bool false] l.length) 4)).alloc (.cells #[.slice (some ⟨w.heap.size + 1, 0, none⟩) l.length l.length] 41)).alloc (.cells #[.slice none 0 0] 22)) = W3 at *
  generalize w.heap.size + 1 + 1 + 1 = bs at *
  generalize w.heap.size + 1 + 1 = bb at *
  generalize w.heap.size + 1 = gl at *
  have hz := HB.out.size
  have b0 := cell_row HP.out.box 0 rfl
  have b1 := cell_row HP.out.bit 0 rfl
  have b2 := cell_row HP.out.stk 0 rfl
  go_upto_region 5 with (go_at_call 27; refine (GL.out gl bs _ _ _ _ _ HP.out (by simp) hz).mono ?_; clear b0 b1 b2 hz; rintro e wn ⟨rfl, vs, hp, hk⟩; have HB2 := hidIt (HB.out.trans (hk.below HB.out.size hgl hbs (fun k hk => (HP.out.own.lt k hk).1))); have HP2 := hidIt hp; clear HB HP hp hk; have HB := HB2; have HP := HP2; clear HB2 HP2; have hz := HB.out.size; have b0 := cell_row HP.out.box 0 rfl; have b1 := cell_row HP.out.bit 0 rfl; have b2 := cell_row HP.out.stk 0 rfl)
  go_wp2_with fail
  go_loopg [8] (2 * l.length + 1) (fun gg _ wr => ∃ r vs st, RcP w.heap.size w.heap.size bb gl bs (.slice ao l.length cap) l r vs st wr ∧ Iv l h r st (-1) ∧ Below w.heap.size w wr ∧ 2 * cntF r + st.length ≤ gg ∧ 2 * cntF r + st.length ≤ 2 * l.length)
  case atStart =>
    have h1 := rch_cnt (List.replicate l.length false) [] 0
    have h2 := cntF_rep l.length
    simp only [List.length_nil] at h1
    exact ⟨_, vs, _, HP.out, Iv.begin l h, HB.out, by omega, by omega⟩
  case round =>
    clear HP HB hz b0 b1 b2
    obtain ⟨r, vs, st, hp, hi, hb, hg, hgm⟩ := hrel
    have HP := hidIt hp
    have HB := hidIt hb
    have HI := hidIt hi
    clear hp hb hi
    have hz := HB.out.size
    have b0 := cell_row HP.out.box 0 rfl
    have b1 := cell_row HP.out.bit 0 rfl
    have b2 := cell_row HP.out.stk 0 rfl
    rcases List.eq_nil_or_concat st with e | ⟨st', n, e⟩
    · subst e
      obtain ⟨aos, caps, rfl⟩ := own_slice HP.out.own
      go_wp2_with fail
      go_ret
      exact ⟨gl, r, rfl, hgl, HP.out.row, HI.out.done (by omega), HB.out⟩
    · rw [List.concat_eq_append] at e
      subst e
      obtain ⟨hn0, hn1⟩ := HI.out.stk n (by simp)
      obtain ⟨N, rfl⟩ := Int.eq_ofNat_of_zero_le hn0
      rw [Int.toNat_natCast] at hn1
      have hNl : N < l.length := (HI.out.snd N hn1).lt
      have HR := hidIt (HI.out.snd N hn1)
      obtain ⟨i, hi⟩ : ∃ i, l[N]? = some i := ⟨l[N], List.getElem?_eq_getElem hNl⟩
      obtain ⟨aos, caps, hvs⟩ := own_slice HP.out.own
      obtain ⟨m, hm'⟩ : ∃ m, m = st'.length := ⟨_, rfl⟩
      rw [show (st' ++ [(N : Int)]).length = m + 1 by rw [List.length_append, hm']; rfl] at hvs hg hgm
      subst hvs
      obtain ⟨gs, rfl, cl, hcl, hcm⟩ := HP.out.own.last hm'.symm
      have hwt := HP.out.own.take hm'.symm
      have HS := hidIt (HP.out.setS hwt)
      have HKs : Hid (Rk gl bs (.slice (some ⟨gs, 0, none⟩) (m + 1) caps) wr (.slice (some ⟨gs, 0, none⟩) m caps) (wr.setCell ⟨bs, 0, none⟩ (.slice (some ⟨gs, 0, none⟩) m caps))) := ⟨rfl, rfl, rfl, by simp [World.setCell], fun k _ _ h2 _ => Below.heap_setCell _ _ _ _ h2, .inl rfl⟩
      have HIp := hidIt (HI.out.pop (by omega))
      have bf := frozen_row HP.out.stk
      have hlt0 : (0 : Int) < (m : Int) + 1 := by omega
      have HM := hidIt hm'
      clear hm' hn0 hn1 hwt HI
      go_upto_region 8 with (fail)
      have HB2 := hidIt (HB.out.trans (HKs.out.below HB.out.size hgl hbs (fun k hk => (HP.out.own.lt k hk).1)))
      generalize wr.setCell ⟨bs, 0, none⟩ (.slice (some ⟨gs, 0, none⟩) m caps) = ws at *
      clear HP HB HKs b0 b1 b2 bf cl hz
      have HP := HS
      have HB := HB2
      have HI := HIp
      clear HS HB2 HIp
      have hz := HB.out.size
      have b0 := cell_row HP.out.box 0 rfl
      have b1 := cell_row HP.out.bit 0 rfl
      have b2 := cell_row HP.out.stk 0 rfl
      have GN1 := hidIt (GN.out (N : Int) ws HB.out)
      go_upto_region 9 with (go_at_call 10; refine GN1.out.mono ?_; clear b0 b1 b2 hz; rintro e w1 ⟨vn, rfl, hn, hb1⟩; obtain ⟨aon, capn, rfl⟩ := own_slice hn; have HAP := hidIt (Apart.begin HP.out hn); have HB2 := hidIt (HB.out.trans (hb1.mono HB.out.size)); have HP2 := hidIt (HP.out.below hb1); clear HB HP hb1 hn GN1; have HB := HB2; have HP := HP2; clear HB2 HP2; have hz := HB.out.size; have b0 := cell_row HP.out.box 0 rfl; have b1 := cell_row HP.out.bit 0 rfl; have b2 := cell_row HP.out.stk 0 rfl)
      have hcnt : 2 * cntF r + m + 1 ≤ gk ∧ 2 * cntF r + m ≤ 2 * l.length := by omega
      have HC := hidIt hcnt
      have HNr : Hid (∀ y, y ∈ nextZ l (N : Int) → 0 ≤ y ∧ y < l.length) := fun y hy => nextZ_range hy
      have HNs : Hid (∀ m : Nat, (m : Int) ∈ nextZ l (N : Int) → Rch l h m) := fun m hm => HR.out.step (.inl hm)
      have HNe : Hid (∀ m : Nat, Succ l h N m → (m : Int) ∈ nextZ l (N : Int) ∨ ∃ i x, l[N]? = some i ∧ x ∈ h ∧ x.f ≤ i.pl ∧ i.pl < x.t ∧ findZ l x.a = (m : Int)) := fun m hm => hm
      have hNXl : (nextZ l (N : Int)).length ≤ 2 := nextZ_len l (N : Int)
      generalize nextZ l (N : Int) = NX at *
      have HMM := hidIt (show m = st'.length from HM.out)
      clear hcnt
      go_loopw [10, 37] (fun _ j wr => ∃ (k : Nat) (r : List Bool) (vs : Value) (st : List Int), j = .int .i64 (k : Int) ∧ k ≤ (NX).length ∧ RcP w.heap.size w.heap.size bb gl bs (.slice ao l.length cap) l r vs st wr ∧ Iv l h r st (N : Int) ∧ Below w.heap.size w wr ∧ 2 * cntF r + st.length + 1 ≤ gk ∧ 2 * cntF r + st.length ≤ 2 * l.length ∧ Apart vs (.slice aon (NX).length capn) wr (NX) gl bs ∧ (∀ (q : Nat) (y : Nat), q < k → (NX)[q]? = some (y : Int) → r[y]? = some true)) (fun _ j _ => (NX).length - (intOf j).toNat)
      case atStart => exact ⟨0, r, _, st', rfl, Nat.zero_le _, HP.out, HI.out, HB.out, by have := HC.out; have := HMM.out; omega, by have := HC.out; have := HMM.out; omega, HAP.out, fun q y hq => absurd hq (Nat.not_lt_zero _)⟩
      case round =>
        clear HP HB HI HAP HC HMM hz b0 b1 b2
        obtain ⟨k, r, vs, st, rfl, hk, hp, hi2, hb, hc3, hc4, hap, hup⟩ := hrel
        have HP := hidIt hp
        have HB := hidIt hb
        have HI := hidIt hi2
        have HC := hidIt (And.intro hc3 hc4)
        have HAP := hidIt hap
        have HUP := hidIt hup
        clear hp hb hi2 hc3 hc4 hap hup
        have hz := HB.out.size
        have hstl : st.length ≤ 10000000000000 := by
          have h1 := HC.out
          omega
        have b0 := cell_row HP.out.box 0 rfl
        have b1 := cell_row HP.out.bit 0 rfl
        have b2 := cell_row HP.out.stk 0 rfl
        by_cases hlt : k < (NX).length
        · have hlt' : (k : Int) < ((NX).length : Int) := by omega
          obtain ⟨y0, hy0⟩ : ∃ y, (NX)[k]? = some y := ⟨_, List.getElem?_eq_getElem hlt⟩
          have hyr := HNr.out _ (List.mem_of_getElem? hy0)
          obtain ⟨y, rfl⟩ := Int.eq_ofNat_of_zero_le hyr.1
          obtain ⟨g, off, rfl, c0⟩ := HAP.out.view.row hy0
          have HST := hidIt (HI.out.step (y : Int) (fun k e hk => by obtain rfl : y = k := by omega
                                                                     exact HNs.out y (List.mem_of_getElem? hy0)))
          have HY := hidIt hy0
          clear hy0
          go_wp2_with (go_at_call 27; refine (GL.out gl bs _ _ _ _ _ HP.out (by omega) hz).mono ?_; clear b0 b1 b2 hz c0; rintro e wn ⟨rfl, vs2, hp, hk⟩; have HB2 := hidIt (HB.out.trans (hk.below HB.out.size hgl hbs (fun k hk => (HP.out.own.lt k hk).1))); have HP2 := hidIt hp; have HK := hidIt hk; clear HB HP hp hk; have HB := HB2; have HP := HP2; clear HB2 HP2; have hz := HB.out.size; have b0 := cell_row HP.out.box 0 rfl; have b1 := cell_row HP.out.bit 0 rfl; have b2 := cell_row HP.out.stk 0 rfl)
          obtain ⟨s1, s2, s3, s4, s5⟩ := HST.out
          refine ⟨⟨k + 1, _, vs2, _, by go_num, by omega, HP.out, s1, HB.out, by have := HC.out; omega, by have := HC.out; omega, HAP.out.rk HK.out, fun q z hq hz => ?_⟩, by simp [intOf]; omega⟩
          by_cases e : q = k
          · subst e
            rw [HY.out] at hz
            have : (y : Int) = (z : Int) := by simpa using hz
            exact s3 z this (by omega)
          · exact s2 z (HUP.out q z (by omega) hz)
        · have hlt' : ¬ (k : Int) < ((NX).length : Int) := by omega
          obtain rfl : k = (NX).length := by omega
          have HNX : Hid (∀ y : Nat, (y : Int) ∈ NX → r[y]? = some true) := fun y hy => by
            obtain ⟨q, hq⟩ := List.getElem?_of_mem hy
            exact HUP.out q y (List.getElem?_eq_some_iff.1 hq).1 hq
          clear HUP HAP hk
          generalize (NX).length = NL at *
          go_wp2_with fail
          go_loopw [12, 47] (fun _ j wr => ∃ (k : Nat) (r : List Bool) (vs : Value) (st : List Int), j = .int .i64 (k : Int) ∧ k ≤ h.length ∧ RcP w.heap.size w.heap.size bb gl bs (.slice ao l.length cap) l r vs st wr ∧ Iv l h r st (N : Int) ∧ Below w.heap.size w wr ∧ 2 * cntF r + st.length + 1 ≤ gk ∧ 2 * cntF r + st.length ≤ 2 * l.length ∧ (∀ y : Nat, (y : Int) ∈ NX → r[y]? = some true) ∧ Hup l h i k r) (fun _ j _ => h.length - (intOf j).toNat)
          case atStart => exact ⟨0, r, vs, st, rfl, Nat.zero_le _, HP.out, HI.out, HB.out, HC.out.1, HC.out.2, HNX.out, fun q x m hq => absurd hq (Nat.not_lt_zero _)⟩
          case round =>
            clear HP HB HI HC HNX hz b0 b1 b2 hstl
            obtain ⟨k, r, vs, st, rfl, hk, hp, hi2, hb, hc3, hc4, hnx, hup⟩ := hrel
            have HP := hidIt hp
            have HB := hidIt hb
            have HI := hidIt hi2
            have HC := hidIt (And.intro hc3 hc4)
            have HNX := hidIt hnx
            have HUP := hidIt hup
            clear hp hb hi2 hc3 hc4 hnx hup
            have hz := HB.out.size
            have hstl : st.length ≤ 10000000000000 := by
              have h1 := HC.out
              omega
            have b0 := cell_row HP.out.box 0 rfl
            have b1 := cell_row HP.out.bit 0 rfl
            have b2 := cell_row HP.out.stk 0 rfl
            by_cases hlt : k < h.length
            · have hlt' : (k : Int) < (h.length : Int) := by omega
              obtain ⟨x, hx⟩ : ∃ x, h[k]? = some x := ⟨h[k], List.getElem?_eq_getElem hlt⟩
              obtain ⟨g, off, rfl, c0, c1, c2, c3⟩ := (HU.out.below HB.out).row hx
              have hA := below_alloc wr (.cells #[.int .i64 x.f, .int .i64 x.t, .int .i64 x.a, .string x.ty] 44)
              have HX := hidIt (heap_alloc_new wr (.cells #[.int .i64 x.f, .int .i64 x.t, .int .i64 x.a, .string x.ty] 44))
              have HB2 := hidIt (HB.out.trans (hA.mono HB.out.size))
              have HP2 := hidIt (HP.out.below hA)
              have HHX := hidIt hx
              go_upto_region 16 with (fail)
              clear hA HB HP c0 c1 c2 c3 b0 b1 b2 hz hx
              have HB := HB2
              have HP := HP2
              clear HB2 HP2
              generalize wr.alloc (.cells #[.int .i64 x.f, .int .i64 x.t, .int .i64 x.a, .string x.ty] 44) = wx at *
              generalize wr.heap.size = bx at *
              have hz := HB.out.size
              have b0 := cell_row HP.out.box 0 rfl
              have b1 := cell_row HP.out.bit 0 rfl
              have b2 := cell_row HP.out.stk 0 rfl
              have d0 := cell_row HX.out 0 rfl
              have d1 := cell_row HX.out 1 rfl
              have d2 := cell_row HX.out 2 rfl
              obtain ⟨gi, offi, rfl, i0', i1', i2', i3'⟩ := (HV.out.below HB.out).row hi
              clear i1' i2' i3'
              have hNl' : (N : Int) < (l.length : Int) := by omega
              have GF1 := hidIt (fun W hb => GF.out x.a W hb)
              by_cases hf1 : x.f ≤ i.pl
              · by_cases hf2 : i.pl < x.t
                · have HRm : Hid (∀ m : Nat, findZ l x.a = (m : Int) → Rch l h m) := fun m hm => HR.out.step (.inr ⟨i, x, hi, List.mem_of_getElem? HHX.out, hf1, hf2, hm⟩)
                  have HST := hidIt (HI.out.step (findZ l x.a) (fun k e hk => HRm.out k e))
                  go_quiet (fail)
                  have HB2 := hidIt (below_drewN HB.out nq)
                  have HP2 := hidIt (HP.out.drewN nq)
                  have HX2 : Hid ((wx.drewN nq).heap[bx]? = some (.cells #[.int .i64 x.f, .int .i64 x.t, .int .i64 x.a, .string x.ty] 44 (0, 0))) := HX.out
                  clear HB HP HX b0 b1 b2 d0 d1 d2 i0'
                  have HB := HB2
                  have HP := HP2
                  clear HB2 HP2
                  generalize wx.drewN nq = wy at *
                  have b0 := cell_row HP.out.box 0 rfl
                  have b1 := cell_row HP.out.bit 0 rfl
                  have b2 := cell_row HP.out.stk 0 rfl
                  have d2 := cell_row HX2.out 2 rfl
                  go_wp2_with (first | (go_at_call 13; refine (GF1.out _ HB.out).mono ?_; clear b0 b1 b2 hz d2; rintro e wf ⟨rfl, hb1⟩; have HB2 := hidIt (HB.out.trans (hb1.mono HB.out.size)); have HP2 := hidIt (HP.out.below hb1); clear HB HP hb1; have HB := HB2; have HP := HP2; clear HB2 HP2; have hz := HB.out.size; have b0 := cell_row HP.out.box 0 rfl; have b1 := cell_row HP.out.bit 0 rfl; have b2 := cell_row HP.out.stk 0 rfl) | (go_at_call 27; refine (GL.out gl bs _ _ _ _ _ HP.out (by omega) hz).mono ?_; clear b0 b1 b2 hz; rintro e wn ⟨rfl, vs2, hp, hk⟩; have HB2 := hidIt (HB.out.trans (hk.below HB.out.size hgl hbs (fun k hk => (HP.out.own.lt k hk).1))); have HP2 := hidIt hp; have HK := hidIt hk; clear HB HP hp hk; have HB := HB2; have HP := HP2; clear HB2 HP2; have hz := HB.out.size; have b0 := cell_row HP.out.box 0 rfl; have b1 := cell_row HP.out.bit 0 rfl; have b2 := cell_row HP.out.stk 0 rfl))
                  obtain ⟨s1, s2, s3, s4, s5⟩ := HST.out
                  refine ⟨⟨k + 1, _, vs2, _, by go_num, by omega, HP.out, s1, HB.out, by have := HC.out; omega, by have := HC.out; omega, fun y hy => s2 y (HNX.out y hy), fun q z m hq hz h1 h2 hm => ?_⟩, by simp [intOf]; omega⟩
                  by_cases e : q = k
                  · subst e
                    rw [HHX.out] at hz
                    cases hz
                    exact s3 m hm (by have := findZ_lt l x.a; omega)
                  · exact s2 m (HUP.out q z m (by omega) hz h1 h2 hm)
                · go_quiet (fail)
                  go_wp2
                  refine ⟨⟨k + 1, r, vs, st, by go_num, by omega, HP.out.drewN nq, HI.out, below_drewN HB.out nq, HC.out.1, HC.out.2, HNX.out, fun q z m hq hz h1 h2 hm => ?_⟩, by simp [intOf]; omega⟩
                  by_cases e : q = k
                  · subst e
                    rw [HHX.out] at hz
                    cases hz
                    exact absurd h2 hf2
                  · exact HUP.out q z m (by omega) hz h1 h2 hm
              · go_quiet (fail)
                go_wp2
                refine ⟨⟨k + 1, r, vs, st, by go_num, by omega, HP.out.drewN nq, HI.out, below_drewN HB.out nq, HC.out.1, HC.out.2, HNX.out, fun q z m hq hz h1 h2 hm => ?_⟩, by simp [intOf]; omega⟩
                by_cases e : q = k
                · subst e
                  rw [HHX.out] at hz
                  cases hz
                  exact absurd h1 hf1
                · exact HUP.out q z m (by omega) hz h1 h2 hm
            · have hlt' : ¬ (k : Int) < (h.length : Int) := by omega
              obtain rfl : k = h.length := by omega
              go_wp2_with fail
              go_roundg (2 * cntF r + st.length)
              case measure => have := HC.out; omega
              case rel =>
                refine ⟨r, vs, st, HP.out, HI.out.close (fun m hm => ?_), HB.out, Nat.le_refl _, HC.out.2⟩
                rcases HNe.out m hm with hm | ⟨i', x, hi', hx, h1, h2, hm⟩
                · exact HNX.out m hm
                · rw [hi] at hi'
                  cases hi'
                  obtain ⟨q, hq⟩ := List.getElem?_of_mem hx
                  exact HUP.out q x m (List.getElem?_eq_some_iff.1 hq).1 hq h1 h2 hm
end Go.Proofs.Ytbmfkbgncjldjab
namespace Go.Proofs.Ytbmfkbgncjldjab
open Go.RowKit

inductive BlkP (d : List Bool) (n : Nat) : Nat → List (Nat × Nat) → Prop
  | nil : BlkP d n 0 []
  | snoc {p t : Nat} {bl : List (Nat × Nat)} : BlkP d n p bl → p < t → t ≤ n → (∀ q, p < q → q < t → d[q]? = some false) → (t = n ∨ d[t]? = some true) → BlkP d n t (bl ++ [(p, t)])
inductive Blk (d : List Bool) (n : Nat) : Nat → List (Nat × Nat) → Prop
  | nil : Blk d n n []
  | cons {p t : Nat} {r : List (Nat × Nat)} : p < t → t ≤ n → (∀ q, p < q → q < t → d[q]? = some false) → (t = n ∨ d[t]? = some true) → Blk d n t r → Blk d n p ((p, t) :: r)
theorem BlkP.join {d : List Bool} {n p : Nat} {bl r : List (Nat × Nat)} (h : BlkP d n p bl) (k : Blk d n p r) : Blk d n 0 (bl ++ r) := by
  induction h generalizing r with
  | nil => exact k
  | snoc _ h1 h2 h3 h4 ih =>
    rw [List.append_assoc]
    exact ih (.cons h1 h2 h3 h4 k)
theorem BlkP.all {d : List Bool} {n : Nat} {bl : List (Nat × Nat)} (h : BlkP d n n bl) : Blk d n 0 bl := by
  have := h.join .nil
  rwa [List.append_nil] at this
theorem Blk.unique {d : List Bool} {n p : Nat} {a b : List (Nat × Nat)} (ha : Blk d n p a) (hb : Blk d n p b) : a = b := by
  induction ha generalizing b with
  | nil =>
    cases hb with
    | nil => rfl
    | cons h1 h2 _ _ _ => omega
  | @cons p t r h1 h2 h3 h4 _ ih =>
    cases hb with
    | nil => omega
    | @cons _ t' r' g1 g2 g3 g4 k =>
      have e : t = t' := by
        rcases Nat.lt_trichotomy t t' with h | h | h
        · have := g3 t h1 h
          rcases h4 with h4 | h4
          · omega
          · rw [this] at h4; cases h4
        · exact h
        · have := h3 t' g1 h
          rcases g4 with g4 | g4
          · omega
          · rw [this] at g4; cases g4
      subst e
      rw [ih k]
theorem BlkP.lt {d : List Bool} {n p : Nat} {bl : List (Nat × Nat)} (h : BlkP d n p bl) : p ≤ n ∧ bl.length ≤ p ∧ ∀ x ∈ bl, x.1 < x.2 ∧ x.2 ≤ p := by
  induction h with
  | nil => exact ⟨Nat.zero_le _, Nat.le_refl _, fun x hx => by simp at hx⟩
  | @snoc p t bl _ h1 h2 _ _ ih =>
    obtain ⟨i1, i2, i3⟩ := ih
    refine ⟨h2, by simp; omega, fun x hx => ?_⟩
    rcases List.mem_append.1 hx with hx | hx
    · have := i3 x hx; omega
    · simp at hx; subst hx; exact ⟨h1, Nat.le_refl _⟩
def Numb (bl : List (Nat × Nat)) (nu : List Int) : Prop := ∀ (j : Nat) (x : Nat × Nat), bl[j]? = some x → nu[x.1]? = some (j : Int)
theorem Numb.snoc {d : List Bool} {n p t : Nat} {bl : List (Nat × Nat)} {nu : List Int} (hb : BlkP d n p bl) (h : Numb bl nu) (hp : p < nu.length) : Numb (bl ++ [(p, t)]) (nu.set p (bl.length : Int)) := by
  intro j x hj
  by_cases hlt : j < bl.length
  · rw [List.getElem?_append_left hlt] at hj
    have h1 := hb.lt.2.2 x (List.mem_of_getElem? hj)
    rw [List.getElem?_set_ne (by omega)]
    exact h j x hj
  · rw [List.getElem?_append_right (by omega)] at hj
    have e : j = bl.length := by
      rcases Nat.eq_zero_or_pos (j - bl.length) with h | h
      · omega
      · rw [List.getElem?_eq_none (by simp; omega)] at hj; cases hj
    subst e
    rw [Nat.sub_self] at hj
    simp at hj
    subst hj
    rw [List.getElem?_set_self hp]
def brow (x : Nat × Nat) : List Value := [.int .i64 (x.1 : Int), .int .i64 (x.2 : Int), .slice none 0 0]
def brows (l : List (Nat × Nat)) : List Value := l.flatMap brow
theorem brows_append (a b : List (Nat × Nat)) : brows (a ++ b) = brows a ++ brows b := by simp [brows]
theorem Try.infoK : (Try.prog.info? 34).map (fun i => (i.zero, i.size, i.bytes)) = some (some (.agg #[.int .i64 0, .int .i64 0, .slice none 0 0]), 3, 40) := by kernel_rfl
theorem brow_one (x : Nat × Nat) : ∀ u ∈ brow x, u.oneCell' = true := by
  intro u hu
  simp [brow] at hu
  rcases hu with rfl | rfl | rfl <;> rfl
theorem wpList_kappend {w : World} {ops : Array Oper} {rest : List Oper} {o : Oper} {a : Act} {Q : Exit → Act → World → Prop} (hgd : o.guard = none) (s x : Operand)
    (ho : o.op = .call { callee := .builtin .append, args := #[s, x], argTypes := #[31, 31] })
    (B : Nat) (v : Value) (bl : List (Nat × Nat)) (f t : Nat) (hown : w.ownsRow B 34 3 v bl.length (brows bl)) (hs : a.eval s = v) (hx : a.eval x = .slice (some ⟨w.heap.size, 0, none⟩) 1 1)
    (hlen : bl.length ≤ 1000000000000) (hB : B ≤ w.heap.size)
    (h : ∀ ao' cap' w', w'.ownsRow B 34 3 (.slice ao' (bl.length + 1) cap') (bl ++ [(f, t)]).length (brows (bl ++ [(f, t)])) → Step v (w.alloc (.cells #[.int .i64 (f : Int), .int .i64 (t : Int), .slice none 0 0] 34)) (.slice ao' (bl.length + 1) cap') w' → wpList Try.prog ops Q rest (a.put o.dst (.slice ao' (bl.length + 1) cap')) w') :
    wpList Try.prog ops Q (o :: rest) a (w.alloc (.cells #[.int .i64 (f : Int), .int .i64 (t : Int), .slice none 0 0] 34)) := by
  obtain ⟨i0, hi, hz0, hz1, hz2⟩ := info_parts Try.infoK
  refine wpList_plain hgd fun K hK => ?_
  have hown' := own_below hown (below_alloc w (.cells #[.int .i64 (f : Int), .int .i64 (t : Int), .slice none 0 0] 34))
  obtain ⟨v', w', hr, h2, h3, _, h4⟩ := run_append_own_at (P := Try.prog) (w.alloc (.cells #[.int .i64 (f : Int), .int .i64 (t : Int), .slice none 0 0] 34)) B 31 o.type 34 i0 _ 3 40 Try.underlying31 hi hz0 hz1 hz2 rfl (by decide) v bl.length (brows bl) hown' ⟨w.heap.size, 0, none⟩ 1 1 (brow (f, t)) rfl
    (fun j u hj => by
      have e : (⟨w.heap.size, 0, none⟩ : Addr).add j = ⟨w.heap.size, j, none⟩ := by unfold Addr.add; split <;> simp_all
      rw [e]
      exact cell_row (heap_alloc_new w _) j (by simpa [brow] using hj)) (brow_one (f, t)) (by unfold maxLen; omega) (by omega) (by simp; omega)
  unfold Oper.wp execOp
  simp only [ho, resolve, invoke, builtin, Sem.run_bind, Sem.run_pure, Result.andThen_ok, List.map_toArray, List.map_cons, List.map_nil, hs, hx, hr]
  obtain ⟨ao', cap', rfl⟩ := own_slice h2
  refine hK _ _ (h ao' cap' w' ?_ (Step.of_at h3 h4))
  rw [brows_append, List.length_append]
  simpa [brows] using h2
theorem made_nums (n : Nat) : madeCells #[Value.int .i64 0] n = (ncells (List.replicate n 0)).toArray := by
  apply Array.toList_inj.1
  rw [toList_madeCells_one]
  simp [ncells]
end Go.Proofs.Ytbmfkbgncjldjab
