/- Texts MV MC MD MP W. -/
import Derived.Test.YtlnapfeglbdecaaBm10
import Derived.Deep.RegionHeld3
import Derived.Test.YtlnapfeglbdecaaBm01
namespace Go.Proofs.Ytlnapfeglbdecaa.M
open Go.RowKit
def sThr : Obj := .cells #[.string ⟨#[76, 84, 104, 114, 111, 119, 97, 98, 108, 101, 59]⟩] 9 (0, 0)
def FIs (at_ : Int) (lc : Value) (b : Bool) (w : World) (y : FM) : Prop := y.at_ = at_ ∧ y.lc = lc ∧ if b then ∃ g, y.st = .slice (some ⟨g, 0, none⟩) 1 1 ∧ w.heap[g]? = some sThr else y.st = .slice none 0 0
def FrameQ (B pr : Nat) (fs : List FM) (at_ : Int) (lc : Value) (b : Bool) (w : World) (e : Ending) (w' : World) : Prop := ∃ v' fs', e = .returned v' ∧ w'.ownsRow B 118 3 v' fs'.length (fcells fs') ∧ ((fs' = fs ∧ ∃ x, fs[fs.length - 1]? = some x ∧ x.at_ = at_) ∨ (∃ y, fs' = fs ++ [y] ∧ FIs at_ lc b w' y ∧ ∀ x, fs[fs.length - 1]? = some x → x.at_ ≠ at_)) ∧ Kq B pr w w' ∧ ∀ T, T ≠ 118 → Same T w w'
theorem below_set {B k o : Nat} {w W : World} {u : Value} (h : Below B w W) (hk : B ≤ k) : Below B w (W.setCell ⟨k, o, none⟩ u) :=
  ⟨h.os, h.tape, h.output, by have := h.size; simpa using this, fun i hi => by rw [Below.heap_setCell _ _ _ _ (by show i ≠ k; omega)]; exact h.block i hi⟩
theorem frame_more {B pr : Nat} {v v1 : Value} {fs : List FM} {y : FM} {w w0 w1 : World} {e : Ending} {at_ : Int} {lc : Value} {b : Bool} (hown : w.ownsRow B 118 3 v fs.length (fcells fs)) (hB : B ≤ w.heap.size) (hb : Below w.heap.size w w0)
    (ho : w1.ownsRow B 118 3 v1 (fs.length + 1) (fcells fs ++ frow y)) (hg : (w0.alloc (.cells (frow y).toArray 118)).grownBy w1 v.ownBlock) (he : e = .returned v1) (hF : FIs at_ lc b w1 y) (hl : ∀ x, fs[fs.length - 1]? = some x → x.at_ ≠ at_) : FrameQ B pr fs at_ lc b w e w1 := by
  have hz := hb.size
  have hb2 : Below w.heap.size w (w0.alloc (.cells (frow y).toArray 118)) := hb.alloc hz _
  have own2 := own_same hown (Same.of_below (T := 118) hb2)
  refine ⟨v1, fs ++ [y], he, ?_, .inr ⟨y, rfl, hF, hl⟩, ?_, fun T hT => (Same.of_below hb2).trans (Same.of_grown own2 hg hT)⟩
  · rw [fcells_append, List.length_append]
    simpa [fcells] using ho
  · exact (Kq.of_below hb2 hB).grown hg (by simp; omega) (fun k e => (own2.lt k e).1)
theorem frame_less {B pr : Nat} {v : Value} {fs : List FM} {w w0 : World} {e : Ending} {at_ : Int} {lc : Value} {b : Bool} (hown : w.ownsRow B 118 3 v fs.length (fcells fs)) (hB : B ≤ w.heap.size) (hb : Below w.heap.size w w0) (he : e = .returned v) (hl : ∃ x, fs[fs.length - 1]? = some x ∧ x.at_ = at_) : FrameQ B pr fs at_ lc b w e w0 :=
  ⟨v, fs, he, own_same hown (Same.of_below hb), .inl ⟨rfl, hl⟩, Kq.of_below hb hB, fun _ _ => Same.of_below hb⟩
theorem FIs.no {at_ : Int} {lc : Value} {w : World} {h1 : lc.oneCell' = true} {h2 : (Value.slice none 0 0).oneCell' = true} : FIs at_ lc false w ⟨at_, lc, .slice none 0 0, h1, h2⟩ := ⟨rfl, rfl, by simp⟩
theorem FIs.yes {at_ : Int} {lc : Value} {w : World} {g : Nat} {h1 : lc.oneCell' = true} {h2 : (Value.slice (some ⟨g, 0, none⟩) 1 1).oneCell' = true} (h : w.heap[g]? = some sThr) : FIs at_ lc true w ⟨at_, lc, .slice (some ⟨g, 0, none⟩) 1 1, h1, h2⟩ := ⟨rfl, rfl, by rw [if_pos rfl]; exact ⟨g, rfl, h⟩⟩
theorem stThr {B : Nat} {w w1 : World} {v : Value} {m : Nat} {xs : List Value} {al : Option Addr} {nl cl : Nat} {at_ : Int} {o : Obj} (hown : w.ownsRow B 118 3 v m xs)
    (hg : ((((w.alloc (.cells #[.int .i64 at_, .slice al nl cl, .slice (some ⟨w.heap.size + 1, 0, none⟩) 1 1] 118)).alloc (.cells #[.string ⟨#[76, 84, 104, 114, 111, 119, 97, 98, 108, 101, 59]⟩] 9))).alloc o).grownBy w1 v.ownBlock) : w1.heap[w.heap.size + 1]? = some sThr := by
  rw [hg.block (w.heap.size + 1) (by simp) ?_, (below_alloc _ _).block _ (by simp)]
  · have := heap_alloc_new (w.alloc (.cells #[.int .i64 at_, .slice al nl cl, .slice (some ⟨w.heap.size + 1, 0, none⟩) 1 1] 118)) (.cells #[.string ⟨#[76, 84, 104, 114, 111, 119, 97, 98, 108, 101, 59]⟩] 9)
    simpa [sThr] using this
  · intro e
    have := (hown.lt _ e.symm).2
    omega
set_option maxRecDepth 8000 in
set_option maxHeartbeats 8000000 in
theorem frame_any (B pr : Nat) (v : Value) (fs : List FM) (at_ : Int) (al : Option Addr) (nl cl : Nat) (b : Bool) (w : World) (hown : w.ownsRow B 118 3 v fs.length (fcells fs)) (hn : fs.length ≤ 100000) (hB : B ≤ w.heap.size) :
    Calls Try.prog 45 #[v, .int .i64 at_, .slice al nl cl, .bool b] w fun e w' => FrameQ B pr fs at_ (.slice al nl cl) b w e w' := by
  obtain ⟨ao, cap, el⟩ := own_slice hown
  subst el
  have HO := hidIt hown
  clear hown
  have hlen : (fs.length : Int) ≤ 100000 := by omega
  have HB1 := hidIt (below_alloc w (.cells #[.int .i64 at_, .slice al nl cl, .slice none 0 0] 118))
  have HB2 := hidIt ((below_alloc w (.cells #[.int .i64 at_, .slice al nl cl, .slice (some ⟨w.heap.size + 1, 0, none⟩) 1 1] 118)).alloc (by simp) (.cells #[.string ⟨#[76, 84, 104, 114, 111, 119, 97, 98, 108, 101, 59]⟩] 9))
  by_cases h0 : (0 : Int) < (fs.length : Int)
  · obtain ⟨x, hx⟩ : ∃ x, fs[fs.length - 1]? = some x := ⟨fs[fs.length - 1]'(by omega), List.getElem?_eq_getElem (by omega)⟩
    obtain ⟨g, cap', ev, hgl, cx⟩ := own_frame HO.out hx
    cases ev
    have HX := hidIt hx
    clear hx
    have hne : g ≠ w.heap.size := by omega
    have e3 : ((fs.length : Int) - 1).toNat * 3 = (fs.length - 1) * 3 := by omega
    by_cases he : x.at_ = at_
    all_goals have HAT := hidIt he
    · cases b
      · go_enter Try.func45, Try.ntmps45
        go_wp2
        go_ret
        exact frame_less HO.out hB HB1.out rfl ⟨x, HX.out, HAT.out⟩
      · go_enter Try.func45, Try.ntmps45
        go_wp2
        go_ret
        exact frame_less HO.out hB HB2.out rfl ⟨x, HX.out, HAT.out⟩
    · have HL : Hid (∀ y, fs[fs.length - 1]? = some y → y.at_ ≠ at_) := fun y hy => by rw [HX.out] at hy; cases hy; exact HAT.out
      cases b
      · go_enter Try.func45, Try.ntmps45
        go_wp2_with (at_builtin; refine frame_append rfl _ _ rfl B (.slice (some ⟨g, 0, none⟩) fs.length cap) _ _ ⟨at_, .slice al nl cl, .slice none 0 0, rfl, rfl⟩ rfl (own_same HO.out (Same.of_below HB1.out)) (by rw [show (w.alloc (.cells #[.int .i64 at_, .slice al nl cl, .slice none 0 0] 118)).heap.size = w.heap.size + 1 from by simp]; rfl) (by omega) (by simp; omega) ?_; intro v1 w1 ho1 hg1; have HF := hidIt (frame_more (pr := pr) (at_ := at_) (lc := .slice al nl cl) (b := false) HO.out hB HB1.out ho1 hg1 rfl FIs.no HL.out); clear ho1 hg1)
        go_ret
        exact HF.out
      · go_enter Try.func45, Try.ntmps45
        go_wp2_with (at_builtin; refine frame_append rfl _ _ rfl B (.slice (some ⟨g, 0, none⟩) fs.length cap) _ _ ⟨at_, .slice al nl cl, .slice (some ⟨w.heap.size + 1, 0, none⟩) 1 1, rfl, rfl⟩ rfl (own_same HO.out (Same.of_below HB2.out)) (by rw [show ((w.alloc (.cells #[.int .i64 at_, .slice al nl cl, .slice (some ⟨w.heap.size + 1, 0, none⟩) 1 1] 118)).alloc (.cells #[.string ⟨#[76, 84, 104, 114, 111, 119, 97, 98, 108, 101, 59]⟩] 9)).heap.size = w.heap.size + 1 + 1 from by simp]; rfl) (by omega) (by simp; omega) ?_; intro v1 w1 ho1 hg1; have HF := hidIt (frame_more (pr := pr) (at_ := at_) (lc := .slice al nl cl) (b := true) HO.out hB HB2.out ho1 hg1 rfl (FIs.yes (stThr HO.out hg1)) HL.out); clear ho1 hg1)
        go_ret
        exact HF.out
  · have HL : Hid (∀ y, fs[fs.length - 1]? = some y → y.at_ ≠ at_) := fun y hy => by have := (List.getElem?_eq_some_iff.1 hy).1; omega
    cases b
    · go_enter Try.func45, Try.ntmps45
      go_wp2_with (at_builtin; refine frame_append rfl _ _ rfl B (.slice ao fs.length cap) _ _ ⟨at_, .slice al nl cl, .slice none 0 0, rfl, rfl⟩ rfl (own_same HO.out (Same.of_below HB1.out)) (by rw [show (w.alloc (.cells #[.int .i64 at_, .slice al nl cl, .slice none 0 0] 118)).heap.size = w.heap.size + 1 from by simp]; rfl) (by omega) (by simp; omega) ?_; intro v1 w1 ho1 hg1; have HF := hidIt (frame_more (pr := pr) (at_ := at_) (lc := .slice al nl cl) (b := false) HO.out hB HB1.out ho1 hg1 rfl FIs.no HL.out); clear ho1 hg1)
      go_ret
      exact HF.out
    · go_enter Try.func45, Try.ntmps45
      go_wp2_with (at_builtin; refine frame_append rfl _ _ rfl B (.slice ao fs.length cap) _ _ ⟨at_, .slice al nl cl, .slice (some ⟨w.heap.size + 1, 0, none⟩) 1 1, rfl, rfl⟩ rfl (own_same HO.out (Same.of_below HB2.out)) (by rw [show ((w.alloc (.cells #[.int .i64 at_, .slice al nl cl, .slice (some ⟨w.heap.size + 1, 0, none⟩) 1 1] 118)).alloc (.cells #[.string ⟨#[76, 84, 104, 114, 111, 119, 97, 98, 108, 101, 59]⟩] 9)).heap.size = w.heap.size + 1 + 1 from by simp]; rfl) (by omega) (by simp; omega) ?_; intro v1 w1 ho1 hg1; have HF := hidIt (frame_more (pr := pr) (at_ := at_) (lc := .slice al nl cl) (b := true) HO.out hB HB2.out ho1 hg1 rfl (FIs.yes (stThr HO.out hg1)) HL.out); clear ho1 hg1)
      go_ret
      exact HF.out
end Go.Proofs.Ytlnapfeglbdecaa.M
namespace Go.Proofs.Ytlnapfeglbdecaa.M
open Go.RowKit

structure COk (c : CD) : Prop where
  ok : P3.CD.Ok c
  sm : P3.CD.Small c
theorem add_len (l : List CD) (c : CD) : (P3.addZ l c).1.length ≤ l.length + 1 := by
  unfold P3.addZ
  split
  · split
    · simp
    · split <;> simp
  · simp
theorem add_ok {l : List CD} {c : CD} (h : ∀ x ∈ l, P3.CD.Ok x) (hc : P3.CD.Ok c) : ∀ x ∈ (P3.addZ l c).1, P3.CD.Ok x := by
  unfold P3.addZ
  split
  · split
    · exact h
    · split
      · intro x hx; simp at hx
      · intro x hx
        rcases List.mem_append.1 hx with hx | hx
        · exact h x hx
        · simp at hx; subst hx; exact hc
  · intro x hx; simp at hx
theorem add_calls (B : Nat) (v : Value) (l : List CD) (c : CD) (w : World) (ho : w.ownsRow B 99 5 v l.length (ccells l)) (hl : l.length ≤ 1000000) (hc : COk c) (hs : ∀ x ∈ l, P3.CD.Ok x) :
    Calls Try.prog 62 #[v, P3.CD.val c] w fun e w' => Below w.heap.size w w' ∧ ∃ v' y, e = .returned (.tuple #[v', .int .i64 (P3.addZ l c).2.1, .int .i64 y]) ∧ w'.ownsRow w.heap.size 99 5 v' (P3.addZ l c).1.length (ccells (P3.addZ l c).1) := by
  refine (P3.radd_any v l c w (P3.CView.of_own ho hs) hc.sm (by omega)).mono fun e w' ⟨hb, v', he, ho'⟩ => ⟨hb, v', _, he, ho'⟩
theorem own_wk {w : World} {B B' n s : Nat} {T : TypeId} {v : Value} {xs : List Value} (h : w.ownsRow B T s v n xs) (hB : B' ≤ B) : w.ownsRow B' T s v n xs := by
  refine ⟨h.1, ?_⟩
  rcases h.2 with x | ⟨g, cap, cur, e, hb, r⟩
  · exact .inl x
  · exact .inr ⟨g, cap, cur, e, by omega, r⟩
theorem MkP.setP {B pr pm : Nat} {s : MS} {w : World} {v : Value} {l : List CD} (h : MkP B pr pm s w) (ho : w.ownsRow 0 99 5 v l.length (ccells l)) : MkP B pr pm { s with vp := v, pool := l } (w.setCell ⟨pm, 1, none⟩ v) := by
  have S : ∀ T, T ≠ 86 → Same T w (w.setCell ⟨pm, 1, none⟩ v) := fun T hT => Same.of_set h.blk hT
  refine ⟨by rw [set_row h.blk]; rfl, S 60 (by decide) _ _ h.rec_, h.rl.kq ((Kq.refl B pr w).set (.inl h.hpm)), own_same ho (S 99 (by decide)), own_same h.l (S 94 (by decide)), own_same h.h (S 106 (by decide)), own_same h.t (S 3 (by decide)), h.hpm, h.hpr, h.at_le⟩
set_option maxRecDepth 8000 in
set_option maxHeartbeats 2000000 in
theorem constant_any (B pr pm n d : Nat) (pl : Bool) (σ : SG) (c : CD) (w : World) (h : Mk B pr pm n d pl σ w) (hn : n ≤ 900000) (hc : COk c) :
    Calls Try.prog 40 #[.pointer (some ⟨pm, 0, none⟩), P3.CD.val c] w fun e w' => e = .returned (.int .i64 (σ.ix c)) ∧ Mk B pr pm (n + 1) d pl (σ.add c) w' ∧ Kq B pr w w' := by
  obtain ⟨s, HP0, HB, hsg⟩ := h
  have HSG := hidIt hsg
  have HIX : Hid (σ.ix c = (P3.addZ s.pool c).2.1) := by show _ = _; rw [← hsg]; rfl
  clear hsg
  generalize σ.ix c = IX at *
  have b0 := below_alloc w (.cells #[.int .i64 c.kind, .int .i32 c.n, .string c.cls, .string c.nm, .string c.dsc] 99)
  have hx := heap_alloc_new w (.cells #[.int .i64 c.kind, .int .i32 c.n, .string c.cls, .string c.nm, .string c.dsc] 99)
  have HP := HP0.below b0
  have K0 := Kq.of_below (pr := pr) b0 HP0.lt.2
  have hpn := HB.pn
  have hlt0 := HP0.lt
  clear HP0 b0
  generalize hW : w.alloc (.cells #[.int .i64 c.kind, .int .i32 c.n, .string c.cls, .string c.nm, .string c.dsc] 99) = W at *
  have HW := hidIt hW
  clear hW
  obtain ⟨-, c1, -, -, -, -, -⟩ := kcells HP.blk
  obtain ⟨aop, capp, ep⟩ := own_slice HP.p
  have GA := add_calls 0 s.vp s.pool c W.drew (own_same HP.p (Same.refl _ _)) (by omega) hc HB.small
  rw [← HIX.out] at GA
  rw [ep] at c1 GA
  unfold P3.CD.val at GA ⊢
  have HGA := hidIt GA
  have d0 := cell_row hx 0 rfl
  have d1 := cell_row hx 1 rfl
  have d2 := cell_row hx 2 rfl
  have d3 := cell_row hx 3 rfl
  have d4 := cell_row hx 4 rfl
  have hS2 : Hid (W.drew.cell? ⟨pm, 1, none⟩ = some (.slice aop s.pool.length capp) ∧ W.drew.cell? ⟨w.heap.size, 0, none⟩ = some (.int .i64 c.kind) ∧ W.drew.cell? ⟨w.heap.size, 1, none⟩ = some (.int .i32 c.n) ∧ W.drew.cell? ⟨w.heap.size, 2, none⟩ = some (.string c.cls) ∧ W.drew.cell? ⟨w.heap.size, 3, none⟩ = some (.string c.nm) ∧ W.drew.cell? ⟨w.heap.size, 4, none⟩ = some (.string c.dsc)) := ⟨c1, d0, d1, d2, d3, d4⟩
  have hS3 : Hid (∀ W3, Below W.drew.heap.size W.drew W3 → (W3.cell? ⟨pm, 1, none⟩ = some (.slice aop s.pool.length capp) ∧ W3.cell? ⟨w.heap.size, 0, none⟩ = some (.int .i64 c.kind) ∧ W3.cell? ⟨w.heap.size, 1, none⟩ = some (.int .i32 c.n) ∧ W3.cell? ⟨w.heap.size, 2, none⟩ = some (.string c.cls) ∧ W3.cell? ⟨w.heap.size, 3, none⟩ = some (.string c.nm) ∧ W3.cell? ⟨w.heap.size, 4, none⟩ = some (.string c.dsc))) := by
    intro W3 hb
    exact ⟨cell_later hb c1, cell_later hb d0, cell_later hb d1, cell_later hb d2, cell_later hb d3, cell_later hb d4⟩
  clear c1 d0 d1 d2 d3 d4 GA hx
  go_enter Try.func40, Try.ntmps40
  go_wp2_with fail
  rw [HW.out]
  go_region_held3 (fun W3 => W3.cell? ⟨pm, 1, none⟩ = some (.slice aop s.pool.length capp) ∧ W3.cell? ⟨w.heap.size, 0, none⟩ = some (.int .i64 c.kind) ∧ W3.cell? ⟨w.heap.size, 1, none⟩ = some (.int .i32 c.n) ∧ W3.cell? ⟨w.heap.size, 2, none⟩ = some (.string c.cls) ∧ W3.cell? ⟨w.heap.size, 3, none⟩ = some (.string c.nm) ∧ W3.cell? ⟨w.heap.size, 4, none⟩ = some (.string c.dsc)) (first | exact hS2.out | exact hS3.out _ (by assumption))
    (first
      | (go_at_call 62; refine HGA.out.mono ?_; rintro e w2 ⟨b2, v2, y2, rfl, o2⟩; obtain ⟨ao2, cap2, rfl⟩ := own_slice o2))
  have HP2 := (HP.drew 1).below b2
  obtain ⟨-, q1, -, -, -, -, -⟩ := kcells HP2.blk
  rw [ep] at q1
  have qf := frozen_row HP2.blk
  have hz : B ≤ W.drew.heap.size := HP.lt.2
  have HP3 := HP2.setP (own_wk o2 (Nat.zero_le _))
  have K3 := ((K0.drew 1).trans (Kq.of_below b2 hz)).set (k := pm) (o := 1) (u := .slice ao2 (P3.addZ s.pool c).1.length cap2) (.inl HP.hpm)
  go_wp2
  go_ret
  refine ⟨rfl, ⟨_, HP3, ?_⟩, K3⟩
  have hal := add_len s.pool c
  refine ⟨⟨HB.dep, HB.pln, by have := HB.lb; simp only; omega, by have := HB.ln; simp only; omega, by simp only; omega, by have := HB.hn; simp only; omega, by have := HB.tn; simp only; omega, by have := HB.l0; simp only; omega, HB.l1, add_ok HB.small hc.ok⟩, ?_⟩
  rw [← HSG.out]
  rfl
end Go.Proofs.Ytlnapfeglbdecaa.M
namespace Go.Proofs.Ytlnapfeglbdecaa.M
open Go.RowKit

theorem lit_after {pr : Nat} {w w' : World} {o : Obj} (ho : OnlyB pr (w.alloc o) w') (hpr : pr < w.heap.size) : w'.heap[w.heap.size]? = some o :=
  (ho _ (by omega)).trans (heap_alloc_new w o)
theorem lit_int {w : World} {g x : Nat} {l : List Int} {T : TypeId} {k : IntKind} (h : w.heap[g]? = some (.cells (l.map (Value.int k)).toArray T (0, 0))) (hx : x < l.length) : ∃ v : Int, w.cell? ⟨g, x, none⟩ = some (.int k v) ∧ v ∈ l :=
  ⟨l[x], cell_row h x (by simp [hx]), List.getElem_mem hx⟩
theorem lit_str {w : World} {g x : Nat} {l : List ByteArray} {T : TypeId} (h : w.heap[g]? = some (.cells (l.map Value.string).toArray T (0, 0))) (hx : x < l.length) : ∃ v : ByteArray, w.cell? ⟨g, x, none⟩ = some (.string v) ∧ v ∈ l :=
  ⟨l[x], cell_row h x (by simp [hx]), List.getElem_mem hx⟩
def cInt (n : Int) : CD := ⟨3, n, ⟨#[]⟩, ⟨#[]⟩, ⟨#[]⟩⟩
def cFld (a b c : ByteArray) : CD := ⟨9, 0, a, b, c⟩
def cMet (a b c : ByteArray) : CD := ⟨10, 0, a, b, c⟩
def cCls (a : ByteArray) : CD := ⟨7, 0, a, ⟨#[]⟩, ⟨#[]⟩⟩
theorem cok3 {k n : Int} {a b c : ByteArray} (h0 : -2147483648 ≤ n) (h1 : n ≤ 2147483647) (z1 : a.size ≤ 1000000) (z2 : b.size ≤ 1000000) (z3 : c.size ≤ 1000000) : COk ⟨k, n, a, b, c⟩ :=
  ⟨⟨⟨by show a.size ≤ _; omega, by show b.size ≤ _; omega, by show c.size ≤ _; omega⟩, h0, h1⟩, ⟨by show a.size ≤ _; omega, by show b.size ≤ _; omega, by show c.size ≤ _; omega⟩⟩
theorem sz0 : (⟨#[]⟩ : ByteArray).size ≤ 1000000 := (show (0 : Nat) ≤ 1000000 by omega)
theorem take_int (B pr pm n d : Nat) (pl : Bool) (σ : SG) (K : Int) (w : World) (h : Mk B pr pm n d pl σ w) (h0 : 0 < K) (h1 : K ≤ 100000) :
    Calls Try.prog 17 #[.pointer (some ⟨pr, 0, none⟩), .int .i64 K] w fun e w' => (∃ x : Nat, (x : Int) < K ∧ e = .returned (.int .i64 (x : Int))) ∧ Mk B pr pm n d pl σ w' ∧ Kq B pr w w' ∧ OnlyB pr w w' := by
  obtain ⟨k, rfl⟩ := Int.eq_ofNat_of_zero_le (Int.le_of_lt h0)
  refine (take_any B pr pm n d pl σ k w h (by omega) (by omega)).mono fun e w' ⟨⟨x, hx, he⟩, h2⟩ => ⟨⟨x, by omega, he⟩, h2⟩
theorem Mk.pr_lt {B pr pm n d : Nat} {pl : Bool} {σ : SG} {w : World} (h : Mk B pr pm n d pl σ w) : pr < w.heap.size := by
  obtain ⟨s, hp, -⟩ := h
  have := hp.lt
  have := hp.hpr
  omega
theorem Mk.pm_lt {B pr pm n d : Nat} {pl : Bool} {σ : SG} {w : World} (h : Mk B pr pm n d pl σ w) : pm < w.heap.size := by
  obtain ⟨s, hp, -⟩ := h
  exact hp.lt.1
theorem Mk.read {B pr pm n d : Nat} {pl : Bool} {σ : SG} {w : World} (h : Mk B pr pm n d pl σ w) : w.cell? ⟨pm, 0, none⟩ = some (.pointer (some ⟨pr, 0, none⟩)) ∧ w.cell? ⟨pm, 3, none⟩ = some (.int .i64 (σ.labels : Int)) ∧ w.cell? ⟨pm, 4, none⟩ = some (.bool pl) ∧ w.cell? ⟨pm, 5, none⟩ = some (.int .i64 σ.left) ∧ w.cell? ⟨pm, 6, none⟩ = some (.int .i64 (d : Int)) ∧ σ.labels ≤ n ∧ σ.left ≤ 110 := by
  obtain ⟨s, hp, hb, rfl⟩ := h
  obtain ⟨c0, -, -, c3, c4, c5, c6⟩ := kcells hp.blk
  rw [hb.pln] at c4
  rw [hb.dep] at c6
  exact ⟨c0, c3, c4, c5, c6, hb.lb, hb.l1⟩
theorem Mk.read2 {B pr pm n d : Nat} {pl : Bool} {σ : SG} {w : World} (h : Mk B pr pm n d pl σ w) : w.cell? ⟨pm, 0, none⟩ = some (.pointer (some ⟨pr, 0, none⟩)) ∧ w.cell? ⟨pm, 3, none⟩ = some (.int .i64 (σ.labels : Int)) ∧ w.cell? ⟨pm, 4, none⟩ = some (.bool pl) ∧ w.cell? ⟨pm, 5, none⟩ = some (.int .i64 σ.left) ∧ w.cell? ⟨pm, 6, none⟩ = some (.int .i64 (d : Int)) ∧ σ.labels ≤ n ∧ σ.left ≤ 110 ∧ pr < w.heap.size ∧ pm < w.heap.size := by
  obtain ⟨c0, c3, c4, c5, c6, hL, hl⟩ := h.read
  exact ⟨c0, c3, c4, c5, c6, hL, hl, h.pr_lt, h.pm_lt⟩
theorem constI_any (B pr pm n d : Nat) (pl : Bool) (σ : SG) (N : Int) (w : World) (h : Mk B pr pm n d pl σ w) (hn : n ≤ 900000) (h0 : -2147483648 ≤ N) (h1 : N ≤ 2147483647) :
    Calls Try.prog 40 #[.pointer (some ⟨pm, 0, none⟩), .agg #[.int .i64 3, .int .i32 N, .string ⟨#[]⟩, .string ⟨#[]⟩, .string ⟨#[]⟩]] w fun e w' => e = .returned (.int .i64 (σ.ix (cInt N))) ∧ Mk B pr pm (n + 1) d pl (σ.add (cInt N)) w' ∧ Kq B pr w w' :=
  constant_any B pr pm n d pl σ (cInt N) w h hn (cok3 h0 h1 sz0 sz0 sz0)
set_option maxRecDepth 8000 in
set_option maxHeartbeats 1000000 in
theorem field_any (B pr pm n d : Nat) (pl : Bool) (σ : SG) (s1 s2 s3 : ByteArray) (w : World) (h : Mk B pr pm n d pl σ w) (hn : n ≤ 900000) (z1 : s1.size ≤ 1000000) (z2 : s2.size ≤ 1000000) (z3 : s3.size ≤ 1000000) :
    Calls Try.prog 42 #[.pointer (some ⟨pm, 0, none⟩), .string s1, .string s2, .string s3] w fun e w' => e = .returned (.int .i64 (σ.ix (cFld s1 s2 s3))) ∧ Mk B pr pm (n + 1) d pl (σ.add (cFld s1 s2 s3)) w' ∧ Kq B pr w w' := by
  have G2 : Hid (Calls Try.prog 40 #[.pointer (some ⟨pm, 0, none⟩), .agg #[.int .i64 9, .int .i32 0, .string s1, .string s2, .string s3]] w fun e w' => e = .returned (.int .i64 (σ.ix (cFld s1 s2 s3))) ∧ Mk B pr pm (n + 1) d pl (σ.add (cFld s1 s2 s3)) w' ∧ Kq B pr w w') := constant_any B pr pm n d pl σ (cFld s1 s2 s3) w h hn (cok3 (by decide) (by decide) z1 z2 z3)
  go_enter Try.func42, Try.ntmps42
  go_wp2_with fail
  refine G2.out.mono ?_
  rintro e w1 ⟨rfl, hm, hk⟩
  go_wp2
  go_ret
  exact ⟨rfl, hm, hk⟩
set_option maxRecDepth 8000 in
set_option maxHeartbeats 1000000 in
theorem method_any (B pr pm n d : Nat) (pl : Bool) (σ : SG) (s1 s2 s3 : ByteArray) (w : World) (h : Mk B pr pm n d pl σ w) (hn : n ≤ 900000) (z1 : s1.size ≤ 1000000) (z2 : s2.size ≤ 1000000) (z3 : s3.size ≤ 1000000) :
    Calls Try.prog 43 #[.pointer (some ⟨pm, 0, none⟩), .string s1, .string s2, .string s3] w fun e w' => e = .returned (.int .i64 (σ.ix (cMet s1 s2 s3))) ∧ Mk B pr pm (n + 1) d pl (σ.add (cMet s1 s2 s3)) w' ∧ Kq B pr w w' := by
  have G2 : Hid (Calls Try.prog 40 #[.pointer (some ⟨pm, 0, none⟩), .agg #[.int .i64 10, .int .i32 0, .string s1, .string s2, .string s3]] w fun e w' => e = .returned (.int .i64 (σ.ix (cMet s1 s2 s3))) ∧ Mk B pr pm (n + 1) d pl (σ.add (cMet s1 s2 s3)) w' ∧ Kq B pr w w') := constant_any B pr pm n d pl σ (cMet s1 s2 s3) w h hn (cok3 (by decide) (by decide) z1 z2 z3)
  go_enter Try.func43, Try.ntmps43
  go_wp2_with fail
  refine G2.out.mono ?_
  rintro e w1 ⟨rfl, hm, hk⟩
  go_wp2
  go_ret
  exact ⟨rfl, hm, hk⟩
set_option maxRecDepth 8000 in
set_option maxHeartbeats 1000000 in
theorem class_any (B pr pm n d : Nat) (pl : Bool) (σ : SG) (s1 : ByteArray) (w : World) (h : Mk B pr pm n d pl σ w) (hn : n ≤ 900000) (z1 : s1.size ≤ 1000000) :
    Calls Try.prog 44 #[.pointer (some ⟨pm, 0, none⟩), .string s1] w fun e w' => e = .returned (.int .i64 (σ.ix (cCls s1))) ∧ Mk B pr pm (n + 1) d pl (σ.add (cCls s1)) w' ∧ Kq B pr w w' := by
  have G2 : Hid (Calls Try.prog 40 #[.pointer (some ⟨pm, 0, none⟩), .agg #[.int .i64 7, .int .i32 0, .string s1, .string ⟨#[]⟩, .string ⟨#[]⟩]] w fun e w' => e = .returned (.int .i64 (σ.ix (cCls s1))) ∧ Mk B pr pm (n + 1) d pl (σ.add (cCls s1)) w' ∧ Kq B pr w w') := constant_any B pr pm n d pl σ (cCls s1) w h hn (cok3 (by decide) (by decide) z1 sz0 sz0)
  go_enter Try.func44, Try.ntmps44
  go_wp2_with fail
  refine G2.out.mono ?_
  rintro e w1 ⟨rfl, hm, hk⟩
  go_wp2
  go_ret
  exact ⟨rfl, hm, hk⟩
end Go.Proofs.Ytlnapfeglbdecaa.M
namespace Go.Proofs.Ytlnapfeglbdecaa.M
open Go.RowKit
def kinds : Bool → List Value
  | true => [.string ⟨#[73]⟩, .string ⟨#[73]⟩, .string ⟨#[73]⟩, .string ⟨#[73]⟩]
  | false => [.string ⟨#[73]⟩, .string ⟨#[73]⟩, .string ⟨#[73]⟩, .string ⟨#[73]⟩, .string ⟨#[76, 65, 59]⟩, .string ⟨#[76, 65, 59]⟩, .string ⟨#[91, 73]⟩, .string ⟨#[76, 84, 104, 114, 111, 119, 97, 98, 108, 101, 59]⟩, .string ⟨#[76, 84, 59]⟩, .string ⟨#[91, 76, 65, 59]⟩]
theorem Mk.noK {B pr pm n d : Nat} {pl : Bool} {σ : SG} {w : World} (h : Mk B pr pm n d pl σ w) : w.cell? ⟨pm, 9, none⟩ = some (.slice none 0 0) := by
  obtain ⟨s, HP, HB⟩ := h
  exact cell_row HP.blk 9 rfl
set_option maxRecDepth 8000 in
set_option maxHeartbeats 4000000 in
theorem types_any (B pr pm n d : Nat) (pl : Bool) (σ : SG) (w : World) (h : Mk B pr pm n d pl σ w) :
    Calls Try.prog 38 #[.pointer (some ⟨pm, 0, none⟩)] w fun e w' => e = .returned (.slice (some ⟨w.heap.size, 0, none⟩) (kinds pl).length (kinds pl).length) ∧ w' = w.alloc (.cells (kinds pl).toArray 9) := by
  obtain ⟨c0, c3, c4, c5, c6, hL, hleft⟩ := h.read
  have c9 := h.noK
  clear h
  cases pl
  all_goals
    go_enter Try.func38, Try.ntmps38
    go_wp2
    go_ret
    exact ⟨rfl, rfl⟩
theorem MkP.putS {B pr pm : Nat} {s : MS} {w w1 : World} {o : Obj} {v1 : Value} {u : Value} {T : TypeId} {x : LN} (h : MkP B pr pm s w) (hg : (w.alloc o).grownBy w1 s.vl.ownBlock) (ho : w1.ownsRow B 94 6 v1 (s.ls.length + 1) (lcells s.ls ++ lrow x)) (h1 : T ≠ 94) (h2 : T ≠ 86) : Same T w ((w1.setCell ⟨pm, 2, none⟩ v1).setCell ⟨pm, 5, none⟩ u) := by
  have hA := h.below (below_alloc w o)
  have hb := Same.of_grown hA.l hg (T := 86) (by decide) _ _ hA.blk
  have hp := (h.putL hg ho).2.1
  exact (((Same.of_below (below_alloc w o)).trans (Same.of_grown hA.l hg h1)).trans (Same.of_set hb h2)).trans (Same.of_set hp.blk h2)
set_option maxRecDepth 8000 in
set_option maxHeartbeats 2000000 in
theorem put_same (B pr pm n d : Nat) (pl : Bool) (σ : SG) (op a b : Int) (w : World) (h : Mk B pr pm n d pl σ w) (hn : n ≤ 900000) :
    Calls Try.prog 27 #[.pointer (some ⟨pm, 0, none⟩), .int .i64 op, .int .i64 a, .int .i64 b] w fun e w' => e = .returned (.tuple #[]) ∧ Mk B pr pm (n + 1) d pl (σ.put op a b) w' ∧ Kq B pr w w' ∧ Same 9 w w' := by
  obtain ⟨s, HP, HB, hsg⟩ := h
  have HSG := hidIt hsg
  clear hsg
  obtain ⟨-, -, c2, -, -, c5, -⟩ := kcells HP.blk
  have f0 := frozen_row HP.blk
  have hz := HP.lt
  have hln := HB.ln
  have L0 := HB.l0
  have L1 := HB.l1
  have HPL := hidIt (fun v1 w1 hg ho => HP.putL (o := .cells (lrow ⟨0, op, a, b, -1, -1⟩).toArray 94) (v1 := v1) (w1 := w1) (x := ⟨0, op, a, b, -1, -1⟩) hg ho)
  have HPS := hidIt (fun v1 w1 u hg ho => HP.putS (T := 9) (u := u) (o := .cells (lrow ⟨0, op, a, b, -1, -1⟩).toArray 94) (v1 := v1) (w1 := w1) (x := ⟨0, op, a, b, -1, -1⟩) hg ho (by decide) (by decide))
  have hOl := HP.l
  obtain ⟨aol, capl, el⟩ := own_slice HP.l
  have HEL := hidIt el
  rw [el] at c2
  go_enter Try.func27, Try.ntmps27
  go_wp2_with (at_builtin; refine wpList_lappend rfl _ _ rfl B (.slice aol s.ls.length capl) _ _ ⟨0, op, a, b, -1, -1⟩ rfl (by rw [← HEL.out]; exact hOl) rfl (by omega) (by omega) ?_; intro v1 w1 ho1 hg1; obtain ⟨hb1, HP1, K1⟩ := HPL.out v1 w1 (by rw [HEL.out]; exact hg1) ho1; have HS1 := hidIt (HPS.out v1 w1 (.int .i64 (s.left - 1)) (by rw [HEL.out]; exact hg1) ho1); obtain ⟨-, -, q2, -, -, q5, -⟩ := kcells hb1; have qf := frozen_row hb1; obtain ⟨ao1, cap1, rfl⟩ := own_slice ho1)
  go_end0
  refine ⟨rfl, ⟨_, HP1.set (s' := { s with vl := .slice ao1 (s.ls.length + 1) cap1, ls := s.ls ++ [⟨0, op, a, b, -1, -1⟩], left := s.left - 1 }) 5 (.int .i64 (s.left - 1)) rfl rfl rfl rfl rfl rfl rfl rfl rfl rfl rfl rfl, ?_⟩, K1.set (.inl HP.hpm), HS1.out⟩
  refine ⟨⟨HB.dep, HB.pln, by have := HB.lb; simp only; omega, by simp; omega, by have := HB.pn; simp only; omega, by have := HB.hn; simp only; omega, by have := HB.tn; simp only; omega, by simp only; omega, by simp only; omega, HB.small⟩, ?_⟩
  rw [← HSG.out]
  rfl
end Go.Proofs.Ytlnapfeglbdecaa.M
namespace Go.Proofs.Ytlnapfeglbdecaa
open Go.RowKit
theorem shr8 (a : Int) (W : World) : (Op.shift .shr .i64 a .u64 8).run Try.prog W = .ok (.int .i64 (a / 256)) W := by
  have h2 : min (8 : Int).toNat IntKind.i64.bits = 8 := by decide
  have h3 : (0 : Int) ≤ 2 ^ 8 := by decide
  simp only [Op.shift, if_neg (show ¬ (8 : Int) < 0 by decide), h2, Sem.run_pure, Int.fdiv_eq_ediv_of_nonneg _ h3]
  rfl
theorem of_alloc {v v' : Value} {w w' : World} {o : Obj} (h : Step v (w.alloc o) v' w') : Step v w v' w' := (Step.of_below (below_alloc w o)).trans h
theorem own_alloc {w : World} {B e s n : Nat} {v : Value} {xs : List Value} (h : w.ownsRow B e s v n xs) (o : Obj) : (w.alloc o).ownsRow B e s v n xs := own_below h (below_alloc w o)
end Go.Proofs.Ytlnapfeglbdecaa
