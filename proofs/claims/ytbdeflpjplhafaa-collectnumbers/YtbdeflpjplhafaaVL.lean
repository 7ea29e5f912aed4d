/- build of stage 14's statements: walked. -/
import Derived.Test.YtbdeflpjplhafaaVJ
import Derived.Test.YtbdeflpjplhafaaVK
import Derived.Test.YtbdeflpjplhafaaVH
namespace Go.Proofs.Ytbdeflpjplhafaa.J
open Go.RowKit Go.MapKept Go.ChangeMaps
set_option linter.unusedVariables false

def NdV (w : World) (v : Value) (xs : List Nd) : Prop :=
  ∃ ao cap, v = .slice ao xs.length cap ∧ xs.length ≤ cap ∧ cap ≤ maxLen ∧ (xs = [] ∨ ∃ g off, ao = some ⟨g, off, none⟩ ∧ ∀ (i : Nat) x, xs[i]? = some x → w.cell? ⟨g, off + i * 3, none⟩ = some (.int .i64 x.sh) ∧ w.cell? ⟨g, off + i * 3 + 1, none⟩ = some (.int .i64 x.n) ∧ ∃ tv, w.cell? ⟨g, off + i * 3 + 2, none⟩ = some tv ∧ NView w tv x.ts)
variable {n0 : Nat} {w w' : World} {p q most : Nat} {xs : List Nd}
theorem NdV.below {v : Value} (h : NdV w v xs) (hb : Below w.heap.size w w') : NdV w' v xs := by
  obtain ⟨ao, cap, e, h1, h2, h3⟩ := h
  refine ⟨ao, cap, e, h1, h2, h3.imp id fun ⟨g, off, e2, h4⟩ => ⟨g, off, e2, fun i x hx => ?_⟩⟩
  obtain ⟨a, b, tv, c, d⟩ := h4 i x hx
  exact ⟨cell_later hb a, cell_later hb b, tv, cell_later hb c, d.below hb⟩
theorem NdV.row {ao : Option Addr} {n cap : Nat} (h : NdV w (.slice ao n cap) xs) {i : Nat} {x : Nd} (hx : xs[i]? = some x) : ∃ g off, ao = some ⟨g, off, none⟩ ∧ w.cell? ⟨g, off + i * 3, none⟩ = some (.int .i64 x.sh) ∧ w.cell? ⟨g, off + i * 3 + 1, none⟩ = some (.int .i64 x.n) ∧ ∃ at_ ct, w.cell? ⟨g, off + i * 3 + 2, none⟩ = some (.slice at_ x.ts.length ct) ∧ NView w (.slice at_ x.ts.length ct) x.ts := by
  obtain ⟨ao', cap', e, h1, h2, h3⟩ := h
  cases e
  rcases h3 with rfl | ⟨g, off, rfl, h4⟩
  · simp at hx
  · obtain ⟨a, b, tv, c, d⟩ := h4 i x hx
    have d2 := d
    obtain ⟨at_, ct, rfl, _⟩ := d2
    exact ⟨g, off, rfl, a, b, at_, ct, c, d⟩
theorem TwoV.fresh {X : Nat → Prop} {l m : List Ob} {ss tt : List (List Bool)} (h : TwoV n0 (fun _ => False) w p q most l ss m tt) (hb : Below w.heap.size w w') (hx : ∀ b, X b → w.heap.size ≤ b ∧ b < w'.heap.size) : TwoV n0 X w' p q most l ss m tt := by
  obtain ⟨H, R, e1, e2, hh, hr, hd, _⟩ := h
  exact ⟨H, R, e1, e2, hh.below hb, hr.below hb, hd, fun b k => ⟨(hx b k).2, fun e => by have := (hh.lt e).2; have := (hx b k).1; omega, fun e => by have := (hr.lt e).2; have := (hx b k).1; omega⟩⟩
theorem bview_blk {w : World} {b : Nat} {r : List Bool} {T : TypeId} (h : Blk w b (tcells r).toArray T) (hr : r.length ≤ 100000) : BView w (.slice (some ⟨b, 0, none⟩) r.length r.length) r :=
  ⟨_, _, rfl, Nat.le_refl _, by unfold maxLen; omega, .inr ⟨b, 0, rfl, fun j x hj => by
    rw [Nat.zero_add, h.cell j]
    simpa using tcells_at hj⟩⟩
theorem BView.kept {w w' : World} {b : Nat} {n c : Nat} {r : List Bool} (h : BView w (.slice (some ⟨b, 0, none⟩) n c) r) (hb : w'.heap[b]? = w.heap[b]?) : BView w' (.slice (some ⟨b, 0, none⟩) n c) r := by
  obtain ⟨ao, cap, e, hc, hm, hl⟩ := h
  refine ⟨ao, cap, e, hc, hm, hl.imp id fun ⟨g, off, e2, h4⟩ => ⟨g, off, e2, fun j x hj => ?_⟩⟩
  cases e
  cases e2
  have := h4 j x hj
  simp only [World.cell?] at this ⊢
  rw [hb]
  exact this
/-- The four shapes in memory. -/
def SH (base : Nat) (W : World) : Prop := ∀ (i : Nat) r, shp4[i]? = some r → ∃ b n, W.cell? ⟨base + 1 + 1 + 1 + 1, i, none⟩ = some (.slice (some ⟨b, 0, none⟩) n n) ∧ (base ≤ b ∧ b < base + 5) ∧ BView W (.slice (some ⟨b, 0, none⟩) n n) r
theorem SH.kept {base : Nat} {W W' : World} (h : SH base W) (hb : ∀ b, base ≤ b ∧ b < base + 5 → W'.heap[b]? = W.heap[b]?) : SH base W' := fun i r hi => by
  obtain ⟨b, n, h1, h2, h3⟩ := h i r hi
  refine ⟨b, n, ?_, h2, h3.kept (hb b h2)⟩
  have := hb (base + 1 + 1 + 1 + 1) (by omega)
  simp only [World.cell?] at h1 ⊢
  rw [this]
  exact h1
theorem lay4 (w : World) : SH w.heap.size (((((w.alloc (.cells #[] 4)).alloc (.cells #[.bool true] 4)).alloc (.cells #[.bool true, .bool false] 4)).alloc (.cells #[.bool false, .bool true, .bool true] 4)).alloc (.cells #[.slice (some ⟨w.heap.size, 0, none⟩) 0 0, .slice (some ⟨w.heap.size + 1, 0, none⟩) 1 1, .slice (some ⟨w.heap.size + 1 + 1, 0, none⟩) 2 2, .slice (some ⟨w.heap.size + 1 + 1 + 1, 0, none⟩) 3 3] 52)) := by
  have b0 := Blk.new w #[] 4
  have b1 := Blk.new (w.alloc (.cells #[] 4)) #[.bool true] 4
  have b2 := Blk.new ((w.alloc (.cells #[] 4)).alloc (.cells #[.bool true] 4)) #[.bool true, .bool false] 4
  have b3 := Blk.new (((w.alloc (.cells #[] 4)).alloc (.cells #[.bool true] 4)).alloc (.cells #[.bool true, .bool false] 4)) #[.bool false, .bool true, .bool true] 4
  have b4 := Blk.new ((((w.alloc (.cells #[] 4)).alloc (.cells #[.bool true] 4)).alloc (.cells #[.bool true, .bool false] 4)).alloc (.cells #[.bool false, .bool true, .bool true] 4)) #[.slice (some ⟨w.heap.size, 0, none⟩) 0 0, .slice (some ⟨w.heap.size + 1, 0, none⟩) 1 1, .slice (some ⟨w.heap.size + 1 + 1, 0, none⟩) 2 2, .slice (some ⟨w.heap.size + 1 + 1 + 1, 0, none⟩) 3 3] 52
  simp only [World.size_alloc] at b0 b1 b2 b3 b4
  have k1 := b0.kept (Below.heap_alloc (w.alloc (.cells #[] 4)) (.cells #[.bool true] 4) _ (by simp only [World.size_alloc]; omega))
  have k2 := k1.kept (Below.heap_alloc _ (.cells #[.bool true, .bool false] 4) _ (by simp only [World.size_alloc]; omega))
  have k3 := k2.kept (Below.heap_alloc _ (.cells #[.bool false, .bool true, .bool true] 4) _ (by simp only [World.size_alloc]; omega))
  have k4 := k3.kept (Below.heap_alloc _ (.cells #[.slice (some ⟨w.heap.size, 0, none⟩) 0 0, .slice (some ⟨w.heap.size + 1, 0, none⟩) 1 1, .slice (some ⟨w.heap.size + 1 + 1, 0, none⟩) 2 2, .slice (some ⟨w.heap.size + 1 + 1 + 1, 0, none⟩) 3 3] 52) _ (by simp only [World.size_alloc]; omega))
  have m2 := b1.kept (Below.heap_alloc _ (.cells #[.bool true, .bool false] 4) _ (by simp only [World.size_alloc]; omega))
  have m3 := m2.kept (Below.heap_alloc _ (.cells #[.bool false, .bool true, .bool true] 4) _ (by simp only [World.size_alloc]; omega))
  have m4 := m3.kept (Below.heap_alloc _ (.cells #[.slice (some ⟨w.heap.size, 0, none⟩) 0 0, .slice (some ⟨w.heap.size + 1, 0, none⟩) 1 1, .slice (some ⟨w.heap.size + 1 + 1, 0, none⟩) 2 2, .slice (some ⟨w.heap.size + 1 + 1 + 1, 0, none⟩) 3 3] 52) _ (by simp only [World.size_alloc]; omega))
  have p3 := b2.kept (Below.heap_alloc _ (.cells #[.bool false, .bool true, .bool true] 4) _ (by simp only [World.size_alloc]; omega))
  have p4 := p3.kept (Below.heap_alloc _ (.cells #[.slice (some ⟨w.heap.size, 0, none⟩) 0 0, .slice (some ⟨w.heap.size + 1, 0, none⟩) 1 1, .slice (some ⟨w.heap.size + 1 + 1, 0, none⟩) 2 2, .slice (some ⟨w.heap.size + 1 + 1 + 1, 0, none⟩) 3 3] 52) _ (by simp only [World.size_alloc]; omega))
  have q4 := b3.kept (Below.heap_alloc _ (.cells #[.slice (some ⟨w.heap.size, 0, none⟩) 0 0, .slice (some ⟨w.heap.size + 1, 0, none⟩) 1 1, .slice (some ⟨w.heap.size + 1 + 1, 0, none⟩) 2 2, .slice (some ⟨w.heap.size + 1 + 1 + 1, 0, none⟩) 3 3] 52) _ (by simp only [World.size_alloc]; omega))
  intro i r hi
  match i, hi with
  | 0, hi => cases hi; exact ⟨_, _, b4.cell 0, by omega, bview_blk (r := []) k4 (by decide)⟩
  | 1, hi => cases hi; exact ⟨_, _, b4.cell 1, by omega, bview_blk (r := [true]) m4 (by decide)⟩
  | 2, hi => cases hi; exact ⟨_, _, b4.cell 2, by omega, bview_blk (r := [true, false]) p4 (by decide)⟩
  | 3, hi => cases hi; exact ⟨_, _, b4.cell 3, by omega, bview_blk (r := [false, true, true]) q4 (by decide)⟩
  | i + 4, hi => simp [shp4] at hi
theorem _root_.Go.Proofs.Ytbdeflpjplhafaa.J.NView.cap_le {at_ : Option Addr} {n ct : Nat} {l : List Int} (h : NView w (.slice at_ n ct) l) : n ≤ ct ∧ ct ≤ maxLen ∧ n = l.length := by
  obtain ⟨ao, cap, e, h1, h2, _⟩ := h
  cases e
  exact ⟨h1, h2, rfl⟩
/-- Both heaps, and the list of references. -/
def PK (w : World) (p q most : Nat) (rv : Value) (acc : List Int) (l m : List Ob) (w' : World) : Prop :=
  TwoV w.heap.size (fun _ => False) w' p q most l shp4 m shp4 ∧ NOwn w' w.heap.size rv acc ∧ Below w.heap.size w w'
theorem PK.step {rv : Value} {acc : List Int} {l m l' m' : List Ob} {w1 w2 : World} (h : PK w p q most rv acc l m w1) (h1 : TwoV w.heap.size (fun _ => False) w2 p q most l' shp4 m' shp4) (h2 : TwoS w.heap.size (fun _ => False) w1 w2) : PK w p q most rv acc l' m' w2 :=
  ⟨h1, h2.nown h.2.1, h.2.2.trans (h2.below _ (Nat.le_refl _))⟩
theorem PK.append {ar : Option Addr} {cr : Nat} {acc : List Int} {l m : List Ob} {w1 w2 : World} {y : Int} {ao4 : Option Addr} {cap4 : Nat} (h : PK w p q most (.slice ar acc.length cr) acc l m w1) (ho : NOwn w2 w.heap.size (.slice ao4 (acc.length + 1) cap4) (acc ++ [y])) (st : Step (.slice ar acc.length cr) (w1.alloc (.cells #[.int .i64 y] 3)) (.slice ao4 (acc.length + 1) cap4) w2) : PK w p q most (.slice ao4 (acc.length + 1) cap4) (acc ++ [y]) l m w2 := by
  have hz := h.2.2.size
  have h1 := (h.1.below (balloc w1 (.cells #[.int .i64 y] 3))).1
  have h2 := own_below h.2.1 (balloc w1 (.cells #[.int .i64 y] 3))
  exact ⟨h1.grown OT2.int h2 st.grown (fun b hb => hb.elim), ho, (h.2.2.trans ((balloc _ _).mono hz)).trans (st.below (Nat.le_trans hz (balloc _ _).size) (fun k hk => (h.2.1.lt k hk).1))⟩
theorem nodeS_le {x : Nd} {L : List Ob} {k N : Nat} (hm : 9 * N ≤ most) (hk : k < N) (hu : usedN L ≤ 9 * k) : usedN L + (objN x + 3) ≤ most := by
  have := objN_le x
  omega
/-- What build answers. -/
def BuildQ (w : World) (most : Nat) (xs : List Nd) (e : Ending) (w' : World) : Prop :=
  ∃ p q v, e = .returned (.tuple #[.pointer (some ⟨p, 0, none⟩), .pointer (some ⟨q, 0, none⟩), v]) ∧ TwoV w.heap.size (fun _ => False) w' p q most (graphL xs) shp4 (graphL xs) shp4 ∧ NOwn w' w.heap.size v (begs 0 (graphL xs)) ∧ RefsOk shp4 (graphL xs) ∧ Below w.heap.size w w'
set_option maxRecDepth 8000 in
set_option maxHeartbeats 8000000 in
theorem build_any (hm : 9 * min xs.length 30 ≤ most) (hm1 : 1 ≤ most) (hm2 : most ≤ 16384) (v : Value) (hv : NdV w v xs) : Calls Try.prog 5 #[v, .int .i64 (most : Int)] w fun e w' => BuildQ w most xs e w' := by
  have GN := hidIt (New_any most (by omega) hm2 w)
  have HV := hidIt hv
  have HM := hidIt hm
  clear hm
  obtain ⟨ao, cap, rfl, hc, hcm, _⟩ := hv
  unfold maxLen at hcm
  have GR : Hid (∀ w1 H, HeapV w.heap.size w1 H most [] [] → Below w.heap.size w w1 → Calls Try.prog 19 #[.int .i64 (most : Int)] w1 fun e w' => ∃ q, e = .returned (.pointer (some ⟨q, 0, none⟩)) ∧ TwoV w.heap.size (fun _ => False) w' H.hb q most [] [] [] [] ∧ Below w.heap.size w w') := hidIt (fun w1 H a b => two_new most (by omega) hm2 a b)
  go_enter Try.func5, Try.ntmps5
  go_wp2_with (first
    | (go_at_call 18; refine GN.out.mono ?_; rintro e w1 ⟨H, rfl, hh, hb⟩; have GR2 := hidIt (GR.out w1 H hh hb); unfold HB.ptr; clear hh hb GN GR)
    | (go_at_call 19; refine GR2.out.mono ?_; rintro e w2 ⟨q, rfl, hT, hb⟩; have HT := hidIt hT; have HB := hidIt hb; clear hT hb GR2))
  have S0 := hidIt (lay4 w2)
  have B5 : Hid (Below w2.heap.size w2 _) := hidIt (((((balloc w2 (.cells #[] 4)).alloc (by simp) (.cells #[.bool true] 4)).alloc (by simp; omega) (.cells #[.bool true, .bool false] 4)).alloc (by simp; omega) (.cells #[.bool false, .bool true, .bool true] 4)).alloc (by simp; omega) (.cells #[.slice (some ⟨w2.heap.size, 0, none⟩) 0 0, .slice (some ⟨w2.heap.size + 1, 0, none⟩) 1 1, .slice (some ⟨w2.heap.size + 1 + 1, 0, none⟩) 2 2, .slice (some ⟨w2.heap.size + 1 + 1 + 1, 0, none⟩) 3 3] 52))
  have Z5 : ((((((w2.alloc (.cells #[] 4)).alloc (.cells #[.bool true] 4)).alloc (.cells #[.bool true, .bool false] 4)).alloc (.cells #[.bool false, .bool true, .bool true] 4)).alloc (.cells #[.slice (some ⟨w2.heap.size, 0, none⟩) 0 0, .slice (some ⟨w2.heap.size + 1, 0, none⟩) 1 1, .slice (some ⟨w2.heap.size + 1 + 1, 0, none⟩) 2 2, .slice (some ⟨w2.heap.size + 1 + 1 + 1, 0, none⟩) 3 3] 52))).heap.size = w2.heap.size + 5 := by simp
  generalize (((((w2.alloc (.cells #[] 4)).alloc (.cells #[.bool true] 4)).alloc (.cells #[.bool true, .bool false] 4)).alloc (.cells #[.bool false, .bool true, .bool true] 4)).alloc (.cells #[.slice (some ⟨w2.heap.size, 0, none⟩) 0 0, .slice (some ⟨w2.heap.size + 1, 0, none⟩) 1 1, .slice (some ⟨w2.heap.size + 1 + 1, 0, none⟩) 2 2, .slice (some ⟨w2.heap.size + 1 + 1 + 1, 0, none⟩) 3 3] 52)) = w3 at *
  have T3 : Hid (TwoV w.heap.size (fun b => w2.heap.size ≤ b ∧ b < w2.heap.size + 5) w3 H.hb q most [] (shp4.take 0) [] (shp4.take 0)) := hidIt (HT.out.fresh B5.out (fun b hb => by omega))
  have HB3 := hidIt (HB.out.trans (B5.out.mono HB.out.size))
  generalize H.hb = p at *
  clear HT B5 HB
  go_loopw [11] (fun iv wr => ∃ k : Nat, k ≤ 4 ∧ iv = .int .i64 (k : Int) ∧ TwoV w.heap.size (fun b => w2.heap.size ≤ b ∧ b < w2.heap.size + 5) wr p q most [] (shp4.take k) [] (shp4.take k) ∧ SH w2.heap.size wr ∧ Below w.heap.size w wr) (fun iv _ => 4 - (intOf iv).toNat)
  case atStart => exact ⟨0, by omega, rfl, T3.out, S0.out, HB3.out⟩
  case round =>
    clear T3 S0 HB3 Z5
    obtain ⟨k, hk, rfl, ht, hs, hb⟩ := hrel
    by_cases hlt : k < 4
    · have hlt' : (k : Int) < 4 := by omega
      obtain ⟨r, hr⟩ : ∃ r, shp4[k]? = some r := ⟨shp4[k]'hlt, List.getElem?_eq_getElem hlt⟩
      have hrl : r.length ≤ 100000 := by
        have : ∀ r ∈ shp4, r.length ≤ 100000 := by decide
        exact this r (List.mem_of_getElem? hr)
      have hadd : addS (shp4.take k) r = shp4.take (k + 1) := by
        have : ∀ k, k < 4 → addS (shp4.take k) ((shp4[k]?).getD []) = shp4.take (k + 1) := by decide
        have := this k hlt
        rwa [hr] at this
      have htl : (shp4.take k).length ≤ 100000 := by simp [List.length_take]; omega
      obtain ⟨b, n, c0, hbr, hbv⟩ := hs k r hr
      have GH := hidIt (two_shapeH ht _ r hbv hrl htl)
      have HS := hidIt hs
      have HBw := hidIt hb
      rw [hadd] at GH
      have GR : Hid (∀ w1, TwoV w.heap.size (fun b => w2.heap.size ≤ b ∧ b < w2.heap.size + 5) w1 p q most [] (shp4.take (k + 1)) [] (shp4.take k) → TwoS w.heap.size (fun b => w2.heap.size ≤ b ∧ b < w2.heap.size + 5) wr w1 → (Calls Try.prog 21 #[.pointer (some ⟨q, 0, none⟩), .slice (some ⟨b, 0, none⟩) n n] w1 fun e w' => (∃ u, e = .returned u) ∧ TwoV w.heap.size (fun b => w2.heap.size ≤ b ∧ b < w2.heap.size + 5) w' p q most [] (shp4.take (k + 1)) [] (shp4.take (k + 1)) ∧ SH w2.heap.size w' ∧ Below w.heap.size w w') ∧ w1.cell? ⟨w2.heap.size + 1 + 1 + 1 + 1, k, none⟩ = some (.slice (some ⟨b, 0, none⟩) n n)) := hidIt (fun w1 h1 h2 => by
        refine ⟨?_, ?_⟩
        · have := two_shapeR h1 _ r (hbv.kept (h2.out b hbr)) hrl htl
          rw [hadd] at this
          exact this.mono fun e w' ⟨a, b, c⟩ => ⟨a, b, (hs.kept h2.out).kept c.out, (HBw.out.trans (h2.below _ (Nat.le_refl _))).trans (c.below _ (Nat.le_refl _))⟩
        · have := h2.out (w2.heap.size + 1 + 1 + 1 + 1) (by omega)
          simp only [World.cell?] at c0 ⊢
          rw [this]
          exact c0)
      clear ht hs hb hbv hbr hr hadd hrl htl HBw HS
      go_wp2_with (first
        | (go_at_call 20; refine GH.out.mono ?_; rintro e w' ⟨⟨u, rfl⟩, a, b⟩; obtain ⟨gr, c1⟩ := GR.out _ a b; have GR2 := hidIt gr; clear gr a b GH GR)
        | (go_at_call 21; refine GR2.out.mono ?_; rintro e w' ⟨⟨u, rfl⟩, hq⟩; have HQ := hidIt hq; clear hq GR2))
      exact ⟨⟨k + 1, by omega, by go_num, HQ.out⟩, by simp [intOf]; omega⟩
    · have hlt' : ¬ (k : Int) < 4 := by omega
      obtain rfl : k = 4 := by omega
      have T4 : Hid (TwoV w.heap.size (fun _ => False) wr p q most [] shp4 [] shp4) := hidIt (ht.weak (fun _ h => h.elim))
      have HB4 := hidIt hb
      clear ht hs hb
      go_wp2_with fail
      have P0 : Hid (PK w p q most (.slice none 0 0) (begs 0 (nodeL xs 0)) (nodeL xs 0) (nodeL xs 0) wr) := hidIt ⟨T4.out, NOwn.nil _ _, HB4.out⟩
      clear T4 HB4
      have hN : min xs.length 30 ≤ xs.length := by omega
      go_loopw [12, 13] (fun rv iv wr => ∃ k : Nat, k ≤ min xs.length 30 ∧ iv = .int .i64 (k : Int) ∧ PK w p q most rv (begs 0 (nodeL xs k)) (nodeL xs k) (nodeL xs k) wr ∧ RefsOk shp4 (nodeL xs k)) (fun _ iv _ => 30 - (intOf iv).toNat)
      case atStart => exact ⟨0, by omega, rfl, P0.out, RefsOk.nil _⟩
      case round =>
        clear P0
        obtain ⟨k, hk, rfl, hp, hr⟩ := hrel
        obtain ⟨ar, cr, rfl⟩ := own_slice hp.2.1
        by_cases hlt : k < min xs.length 30
        · have hlt1 : (k : Int) < (xs.length : Int) := by omega
          have hlt2 : (k : Int) < 30 := by omega
          obtain ⟨x, hx⟩ : ∃ x, xs[k]? = some x := ⟨xs[k]'(by omega), List.getElem?_eq_getElem (by omega)⟩
          obtain ⟨g, off, rfl, c0, c1, -⟩ := HV.out.row hx
          have HC : Hid (∀ w1, Below w.heap.size w w1 → w1.cell? ⟨g, off + k * 3, none⟩ = some (.int .i64 x.sh) ∧ w1.cell? ⟨g, off + k * 3 + 1, none⟩ = some (.int .i64 x.n)) := hidIt (fun w1 hb => ⟨cell_later hb c0, cell_later hb c1⟩)
          have hub : usedN (nodeL xs k) + (objN x + 3) ≤ most := nodeS_le HM.out hlt (nodeL_used xs k (by omega))
          have hob := objN_le x
          have GT : Hid (∀ w1 l, PK w p q most (.slice ar (begs 0 (nodeL xs k)).length cr) (begs 0 (nodeL xs k)) (nodeL xs k ++ [⟨objS x, 0, List.replicate (objN x) 0⟩]) l w1 → Calls Try.prog 16 #[.pointer (some ⟨p, 0, none⟩), .int .i64 ((usedN (nodeL xs k) : Int) + 1), .int .i64 ((k : Int) + 1)] w1 fun e w' => (∃ u, e = .returned u) ∧ PK w p q most (.slice ar (begs 0 (nodeL xs k)).length cr) (begs 0 (nodeL xs k)) (nodeL xs (k + 1)) l w') := hidIt (fun w1 l h => by
            have := two_tagH h.1 ((usedN (nodeL xs k) : Int) + 1) ((k : Int) + 1) _ (objZ_end _ _)
            rw [setTag_snoc, show setT ((k : Int) + 1) (⟨objS x, 0, List.replicate (objN x) 0⟩ : Ob) = nodeO k x from rfl, ← nodeL_snoc hx] at this
            exact this.mono fun e w' ⟨a, b, c⟩ => ⟨a, h.step b c⟩)
          have GU : Hid (∀ w1 l, PK w p q most (.slice ar (begs 0 (nodeL xs k)).length cr) (begs 0 (nodeL xs k)) l (nodeL xs k ++ [⟨objS x, 0, List.replicate (objN x) 0⟩]) w1 → Calls Try.prog 26 #[.pointer (some ⟨q, 0, none⟩), .int .i64 ((usedN (nodeL xs k) : Int) + 1), .int .i64 ((k : Int) + 1)] w1 fun e w' => (∃ u, e = .returned u) ∧ PK w p q most (.slice ar (begs 0 (nodeL xs k)).length cr) (begs 0 (nodeL xs k)) l (nodeL xs (k + 1)) w') := hidIt (fun w1 l h => by
            have := two_tagR h.1 ((usedN (nodeL xs k) : Int) + 1) ((k : Int) + 1) _ (objZ_end _ _)
            rw [setTag_snoc, show setT ((k : Int) + 1) (⟨objS x, 0, List.replicate (objN x) 0⟩ : Ob) = nodeO k x from rfl, ← nodeL_snoc hx] at this
            exact this.mono fun e w' ⟨a, b, c⟩ => ⟨a, h.step b c⟩)
          have hrk : RefsOk shp4 (nodeL xs (k + 1)) := by
            rw [nodeL_snoc hx]
            have h1 := (RefsOk.zeros hr (objS x) (objN x)).tag ((usedN (nodeL xs k) : Int) + 1) ((k : Int) + 1)
            rw [setTag_snoc] at h1
            exact h1
          have NX : Hid (∀ w' v, PK w p q most v (begs 0 (nodeL xs k) ++ [(usedN (nodeL xs k) : Int) + 1]) (nodeL xs (k + 1)) (nodeL xs (k + 1)) w' → ∃ k' : Nat, k' ≤ min xs.length 30 ∧ Value.int .i64 ((k : Int) + 1) = .int .i64 (k' : Int) ∧ PK w p q most v (begs 0 (nodeL xs k')) (nodeL xs k') (nodeL xs k') w' ∧ RefsOk shp4 (nodeL xs k')) := hidIt (fun w' v h => ⟨k + 1, by omega, by go_num, by
            have e1 : begs 0 (nodeL xs k) ++ [(usedN (nodeL xs k) : Int) + 1] = begs 0 (nodeL xs (k + 1)) := by rw [nodeL_snoc hx, begs_snoc]
            rw [← e1]; exact h, hrk⟩)
          have hbl : (begs 0 (nodeL xs k)).length ≤ 100000 := by rw [begs_len, nodeL_len (by omega)]; omega
          have HP := hidIt hp
          have GW := hidIt (within_any x.n 6 (by decide))
          obtain ⟨c0, c1⟩ := HC.out _ hp.2.2
          clear hrk hr
          generalize hrr : (usedN (nodeL xs k) : Int) + 1 = rr at *
          by_cases hs : x.sh < 0
          · have e1 : objS x = arrS (x.sh == -2) := by unfold objS; rw [if_pos hs]
            have e2 : objN x = wiZ x.n 6 := by unfold objN; rw [if_pos hs]
            rw [e1, e2] at GT GU
            rw [e2] at hub hob
            have GA : Hid (Calls Try.prog 22 #[.pointer (some ⟨p, 0, none⟩), .bool (x.sh == -2), .int .i64 (wiZ x.n 6 : Int)] wr fun e w' => e = .returned (.tuple #[.int .i64 rr, .int .i64 0]) ∧ PK w p q most (.slice ar (begs 0 (nodeL xs k)).length cr) (begs 0 (nodeL xs k)) (nodeL xs k ++ [⟨arrS (x.sh == -2), 0, List.replicate (wiZ x.n 6) 0⟩]) (nodeL xs k) w') := hidIt (by
              rw [← hrr]
              exact (two_arrayH hp.1 (x.sh == -2) _ (by omega) hub).mono fun e w' ⟨a, b, c⟩ => ⟨a, hp.step b c⟩)
            have GB : Hid (∀ w1, PK w p q most (.slice ar (begs 0 (nodeL xs k)).length cr) (begs 0 (nodeL xs k)) (nodeL xs k ++ [⟨arrS (x.sh == -2), 0, List.replicate (wiZ x.n 6) 0⟩]) (nodeL xs k) w1 → Calls Try.prog 23 #[.pointer (some ⟨q, 0, none⟩), .bool (x.sh == -2), .int .i64 (wiZ x.n 6 : Int)] w1 fun e w' => (∃ u, e = .returned u) ∧ PK w p q most (.slice ar (begs 0 (nodeL xs k)).length cr) (begs 0 (nodeL xs k)) (nodeL xs k ++ [⟨arrS (x.sh == -2), 0, List.replicate (wiZ x.n 6) 0⟩]) (nodeL xs k ++ [⟨arrS (x.sh == -2), 0, List.replicate (wiZ x.n 6) 0⟩]) w') := hidIt (fun w1 h => (two_arrayR h.1 (x.sh == -2) _ (by omega) hub).mono fun e w' ⟨a, b, c⟩ => ⟨a, h.step b c⟩)
            clear hp hx hub e1 e2
            go_wp2_with (first
              | (go_at_call 22; refine GA.out.mono ?_; rintro e w' ⟨rfl, hq⟩; obtain ⟨d0, d1⟩ := HC.out _ hq.2.2; have GA2 := hidIt (GB.out _ hq); clear hq GA GB)
              | (go_at_call 23; refine GA2.out.mono ?_; rintro e w' ⟨⟨u, rfl⟩, hq⟩; have GS := hidIt (GT.out _ _ hq); clear hq GA2 GT)
              | (go_at_call 15; refine (GW.out _).mono ?_; rintro e w' ⟨rfl, hww⟩; cases hww)
              | (go_at_call 16; refine GS.out.mono ?_; rintro e w' ⟨⟨u, rfl⟩, hq⟩; obtain ⟨d0, d1⟩ := HC.out _ hq.2.2; have GS2 := hidIt (GU.out _ _ hq); clear hq GU GS)
              | (go_at_call 26; refine GS2.out.mono ?_; rintro e w' ⟨⟨u, rfl⟩, hq⟩; have HQ := hidIt hq; have hz := hq.2.2.size; clear hq GS2)
              | (at_builtin; refine wpList_nappend rfl _ _ rfl w.heap.size _ _ _ HQ.out.2.1 rfl rfl (by omega) hz ?_; intro ao4 cap4 w9 ho2 st2; have HQ2 := hidIt (NX.out w9 _ (HQ.out.append ho2 st2)); clear ho2 st2 NX))
            exact ⟨HQ2.out, by simp [intOf]; omega⟩
          · obtain ⟨s, hsn⟩ : ∃ s : Nat, x.sh = (s : Int) := ⟨x.sh.toNat, by omega⟩
            obtain ⟨r, hrr2⟩ : ∃ r, shp4[s % 4]? = some r := ⟨shp4[s % 4]'(Nat.mod_lt _ (by decide)), List.getElem?_eq_getElem _⟩
            have e1 : objS x = ((s % 4 : Nat) : Int) := by unfold objS; rw [if_neg hs, hsn, Int.toNat_natCast]
            have e2 : objN x = r.length := by unfold objN; rw [if_neg hs, hsn, Int.toNat_natCast, hrr2]; rfl
            have hmod : (s : Int).tmod 4 = ((s % 4 : Nat) : Int) := by rw [Int.tmod_eq_emod_of_nonneg (by omega)]; omega
            rw [e1, e2] at GT GU
            rw [e2] at hub hob
            rw [hsn] at c0 HC hs
            have GA : Hid (Calls Try.prog 24 #[.pointer (some ⟨p, 0, none⟩), .int .i64 ((s : Int).tmod 4)] wr fun e w' => e = .returned (.tuple #[.int .i64 rr, .int .i64 0]) ∧ PK w p q most (.slice ar (begs 0 (nodeL xs k)).length cr) (begs 0 (nodeL xs k)) (nodeL xs k ++ [⟨((s % 4 : Nat) : Int), 0, List.replicate r.length 0⟩]) (nodeL xs k) w') := hidIt (by
              rw [← hrr, hmod]
              exact (two_objectH hp.1 _ r hrr2 (by omega) hub).mono fun e w' ⟨a, b, c⟩ => ⟨a, hp.step b c⟩)
            have GB : Hid (∀ w1, PK w p q most (.slice ar (begs 0 (nodeL xs k)).length cr) (begs 0 (nodeL xs k)) (nodeL xs k ++ [⟨((s % 4 : Nat) : Int), 0, List.replicate r.length 0⟩]) (nodeL xs k) w1 → Calls Try.prog 25 #[.pointer (some ⟨q, 0, none⟩), .int .i64 ((s : Int).tmod 4)] w1 fun e w' => (∃ u, e = .returned u) ∧ PK w p q most (.slice ar (begs 0 (nodeL xs k)).length cr) (begs 0 (nodeL xs k)) (nodeL xs k ++ [⟨((s % 4 : Nat) : Int), 0, List.replicate r.length 0⟩]) (nodeL xs k ++ [⟨((s % 4 : Nat) : Int), 0, List.replicate r.length 0⟩]) w') := hidIt (fun w1 h => by
              rw [hmod]
              exact (two_objectR h.1 _ r hrr2 (by omega) hub).mono fun e w' ⟨a, b, c⟩ => ⟨a, h.step b c⟩)
            clear hp hx hub e1 e2 hmod hrr2 hsn
            go_wp2_with (first
              | (go_at_call 24; refine GA.out.mono ?_; rintro e w' ⟨rfl, hq⟩; obtain ⟨d0, d1⟩ := HC.out _ hq.2.2; have GA2 := hidIt (GB.out _ hq); clear hq GA GB)
              | (go_at_call 25; refine GA2.out.mono ?_; rintro e w' ⟨⟨u, rfl⟩, hq⟩; have GS := hidIt (GT.out _ _ hq); clear hq GA2 GT)
              | (go_at_call 15; refine (GW.out _).mono ?_; rintro e w' ⟨rfl, hww⟩; cases hww)
              | (go_at_call 16; refine GS.out.mono ?_; rintro e w' ⟨⟨u, rfl⟩, hq⟩; obtain ⟨d0, d1⟩ := HC.out _ hq.2.2; have GS2 := hidIt (GU.out _ _ hq); clear hq GU GS)
              | (go_at_call 26; refine GS2.out.mono ?_; rintro e w' ⟨⟨u, rfl⟩, hq⟩; have HQ := hidIt hq; have hz := hq.2.2.size; clear hq GS2)
              | (at_builtin; refine wpList_nappend rfl _ _ rfl w.heap.size _ _ _ HQ.out.2.1 rfl rfl (by omega) hz ?_; intro ao4 cap4 w9 ho2 st2; have HQ2 := hidIt (NX.out w9 _ (HQ.out.append ho2 st2)); clear ho2 st2 NX))
            exact ⟨HQ2.out, by simp [intOf]; omega⟩
        · obtain ⟨N, hNe⟩ : ∃ N, N = min xs.length 30 := ⟨_, rfl⟩
          have hkN : k = N := by omega
          subst hkN
          obtain ⟨L0, hL0⟩ : ∃ L0, L0 = nodeL xs k := ⟨_, rfl⟩
          obtain ⟨rs, hrs⟩ : ∃ rs, rs = begs 0 L0 := ⟨_, rfl⟩
          have hrl : rs.length = k := by rw [hrs, begs_len, hL0, nodeL_len (by omega)]
          have hrs0 : (begs 0 (nodeL xs k)).length = k := by rw [begs_len, nodeL_len (by omega)]
          rw [hrs0] at hp ⊢
          rw [← hL0] at hp hr
          rw [← hrs] at hp
          have hk1 : k ≤ xs.length := by omega
          have hk2 : k ≤ 30 := by omega
          have hout : ¬ ((k : Int) < (xs.length : Int) ∧ (k : Int) < 30) := by omega
          have FIN : Hid (∀ w', PK w p q most (.slice ar k cr) rs (graphI xs rs L0 k) (graphI xs rs L0 k) w' → RefsOk shp4 (graphI xs rs L0 k) → BuildQ w most xs (.returned (.tuple #[.pointer (some ⟨p, 0, none⟩), .pointer (some ⟨q, 0, none⟩), .slice ar k cr])) w') := hidIt (fun w' h1 h2 => by
            have e1 : graphI xs rs L0 k = graphL xs := by unfold graphL; rw [← hNe, ← hL0, ← hrs]
            rw [e1] at h1 h2
            have e2 : begs 0 (graphL xs) = rs := by rw [begs_skel _ _ 0 (graphL_skel xs), ← hNe, ← hL0, ← hrs]
            exact ⟨p, q, _, rfl, h1.1, by rw [e2]; exact h1.2.1, h2, h1.2.2⟩)
          have P1 := hidIt hp
          have R1 := hidIt hr
          have HRS := hidIt hrs
          have hcs : ¬ (k : Int) < (xs.length : Int) ∨ ((k : Int) < (xs.length : Int) ∧ ¬ (k : Int) < 30) := by omega
          clear hp hr hrs0 hlt hN hNe hL0 hrs hout
          rcases hcs with hcs | ⟨hcs, hcs2⟩
          all_goals go_wp2_with fail
          all_goals
            go_loopw [17] (fun iv wr => ∃ i : Nat, i ≤ k ∧ iv = .int .i64 (i : Int) ∧ PK w p q most (.slice ar k cr) rs (graphI xs rs L0 i) (graphI xs rs L0 i) wr ∧ RefsOk shp4 (graphI xs rs L0 i)) (fun iv _ => k - (intOf iv).toNat)
            case atStart => exact ⟨0, Nat.zero_le _, rfl, P1.out, R1.out⟩
            case round =>
              clear P1 R1
              obtain ⟨i, hi, rfl, hp, hr⟩ := hrel
              by_cases hlt : i < k
              · have hlt' : (i : Int) < (k : Int) := by omega
                have hlx : (i : Int) < (xs.length : Int) := by omega
                obtain ⟨x, hx⟩ : ∃ x, xs[i]? = some x := ⟨xs[i]'(by omega), List.getElem?_eq_getElem (by omega)⟩
                obtain ⟨r, hri⟩ : ∃ r, rs[i]? = some r := ⟨rs[i]'(by omega), List.getElem?_eq_getElem (by omega)⟩
                obtain ⟨g, off, rfl, -, -, at_, ct, c2, hts⟩ := HV.out.row hx
                have ho := hp.2.1
                unfold NOwn at ho
                rw [hrl] at ho
                obtain ⟨gr, rfl, -, -, c3, -⟩ := own_cell ho (icells_at hri)
                obtain ⟨M, hM⟩ : ∃ M : Nat, lenZ L0 r = (M : Int) := ⟨(lenZ L0 r).toNat, by unfold lenZ; split <;> omega⟩
                have hLi : skel (graphI xs rs L0 i) = skel L0 := skel_graph xs rs L0 i
                have HG : Hid (graphI xs rs L0 (i + 1) = rowK rs r x.ts (graphI xs rs L0 i) (min M x.ts.length)) := hidIt (by
                  show rowK rs ((rs[i]?).getD 0) ((xs[i]?).map (·.ts) |>.getD []) (graphI xs rs L0 i) (min (lenZ L0 ((rs[i]?).getD 0)).toNat ((xs[i]?).map (·.ts) |>.getD []).length) = _
                  rw [hri, hx]
                  simp only [Option.getD_some, Option.map_some]
                  rw [hM, Int.toNat_natCast])
                have HRI := hidIt hri
                generalize graphI xs rs L0 i = Li at *
                have hlen : ∀ j, lenZ (rowK rs r x.ts Li j) r = (M : Int) := fun j => by rw [lenZ_skel ((skel_row rs r x.ts Li j).trans hLi), hM]
                have hbeg : ∀ j, begs 0 (rowK rs r x.ts Li j) = rs := fun j => by rw [begs_skel _ _ 0 ((skel_row rs r x.ts Li j).trans hLi), HRS.out]
                have hK : Hid (∃ K, K = min M x.ts.length) := hidIt ⟨_, rfl⟩
                obtain ⟨K, hKe⟩ := hK.out
                rw [← hKe] at HG
                obtain ⟨hct1, hct2, -⟩ := hts.cap_le
                unfold maxLen at hct2
                have HC : Hid (∀ w1, Below w.heap.size w w1 → w1.cell? ⟨g, off + i * 3 + 2, none⟩ = some (.slice at_ x.ts.length ct) ∧ NView w1 (.slice at_ x.ts.length ct) x.ts) := hidIt (fun w1 hb => ⟨cell_later hb c2, hts.below hb⟩)
                have HO : Hid (∀ w1 l m, PK w p q most (.slice (some ⟨gr, 0, none⟩) k cr) rs l m w1 → ∀ (j : Nat) y, rs[j]? = some y → w1.cell? ⟨gr, j, none⟩ = some (.int .i64 y)) := hidIt (fun w1 l m h j y hy => by
                  have ho := h.2.1
                  unfold NOwn at ho
                  rw [hrl] at ho
                  obtain ⟨g', e, -, -, c, -⟩ := own_cell ho (icells_at hy)
                  cases e
                  exact c)
                have GL : Hid (∀ w1 j, PK w p q most (.slice (some ⟨gr, 0, none⟩) k cr) rs (rowK rs r x.ts Li j) (rowK rs r x.ts Li j) w1 → Calls Try.prog 27 #[.pointer (some ⟨q, 0, none⟩), .int .i64 r] w1 fun e w' => e = .returned (.int .i64 (M : Int)) ∧ w' = w1) := hidIt (fun w1 j h => by
                  have := two_lenR h.1 r
                  rw [hlen j] at this
                  exact this)
                have P2 := hidIt hp
                have R2 := hidIt hr
                have HNX := hidIt (show ∀ j w', PK w p q most (.slice (some ⟨gr, 0, none⟩) k cr) rs (rowK rs r x.ts Li j) (rowK rs r x.ts Li j) w' → RefsOk shp4 (rowK rs r x.ts Li j) → j = K → ∃ i' : Nat, i' ≤ k ∧ Value.int .i64 ((i : Int) + 1) = .int .i64 (i' : Int) ∧ PK w p q most (.slice (some ⟨gr, 0, none⟩) k cr) rs (graphI xs rs L0 i') (graphI xs rs L0 i') w' ∧ RefsOk shp4 (graphI xs rs L0 i') from fun j w' h1 h2 e => ⟨i + 1, by omega, by go_num, by subst e; rw [HG.out]; exact ⟨h1, h2⟩⟩)
                have HB := hidIt hbeg
                have HL := hidIt hlen
                have HK := hidIt hKe
                have hKM : K ≤ M ∧ K ≤ x.ts.length := by omega
                clear hp hr c2 c3 ho hx hri HV FIN hbeg hlen hKe hM hLi hK HG
                go_wp2_with fail
                go_loopw [18] (fun jv wr => ∃ j : Nat, j ≤ K ∧ jv = .int .i64 (j : Int) ∧ PK w p q most (.slice (some ⟨gr, 0, none⟩) k cr) rs (rowK rs r x.ts Li j) (rowK rs r x.ts Li j) wr ∧ RefsOk shp4 (rowK rs r x.ts Li j)) (fun jv _ => K - (intOf jv).toNat)
                case atStart => exact ⟨0, Nat.zero_le _, rfl, P2.out, R2.out⟩
                case round =>
                  clear P2 R2
                  obtain ⟨j, hj, rfl, hp, hr⟩ := hrel
                  have HP := hidIt hp
                  obtain ⟨c2, hts2⟩ := HC.out _ hp.2.2
                  have c3 := HO.out _ _ _ hp i r HRI.out
                  have GL2 := hidIt (GL.out _ _ hp)
                  by_cases hjl : j < K
                  · have hjM : (j : Int) < (M : Int) := by omega
                    have hjT : (j : Int) < (x.ts.length : Int) := by omega
                    obtain ⟨t, ht⟩ : ∃ t, x.ts[j]? = some t := ⟨x.ts[j]'(by omega), List.getElem?_eq_getElem (by omega)⟩
                    obtain ⟨g3, off3, rfl, c4⟩ := hts2.row ht
                    have HT : Hid (∀ w1, Below w.heap.size w w1 → w1.cell? ⟨g3, off3 + j, none⟩ = some (.int .i64 t)) := hidIt (fun w1 hb => by
                      obtain ⟨g', off', e, c⟩ := (HC.out w1 hb).2.row ht
                      cases e
                      exact c)
                    have hn : hasZ (rowK rs r x.ts Li j) r (j : Int) = true := by
                      unfold hasZ
                      rw [HL.out j]
                      simp; omega
                    obtain ⟨V, hVe⟩ : ∃ V, V = valV rs (rowK rs r x.ts Li j) r j t := ⟨_, rfl⟩
                    have hf : fitZ shp4 (rowK rs r x.ts Li j) r (j : Int) V = true := by rw [hVe]; exact valV_fit (HB.out j) r j t
                    have hnext : rowK rs r x.ts Li (j + 1) = setL (rowK rs r x.ts Li j) r (j : Int) V := by
                      show setL (rowK rs r x.ts Li j) r (j : Int) (valV rs (rowK rs r x.ts Li j) r j ((x.ts[j]?).getD 0)) = _
                      rw [ht, hVe]; rfl
                    have hr2 : RefsOk shp4 (rowK rs r x.ts Li (j + 1)) := by rw [hnext]; exact RefsOk.set hr hn hf
                    have GI := hidIt ((two_isrefR hp.1 r (j : Int) hn).mono (R' := fun e w' => e = .returned (.bool (refZ shp4 (rowK rs r x.ts Li j) r (j : Int))) ∧ PK w p q most (.slice (some ⟨gr, 0, none⟩) k cr) rs (rowK rs r x.ts Li j) (rowK rs r x.ts Li j) w') (fun e w' ⟨a, b, c⟩ => ⟨a, hp.step b c⟩))
                    have GH : Hid (∀ w1, PK w p q most (.slice (some ⟨gr, 0, none⟩) k cr) rs (rowK rs r x.ts Li j) (rowK rs r x.ts Li j) w1 → Calls Try.prog 29 #[.pointer (some ⟨p, 0, none⟩), .int .i64 r, .int .i64 (j : Int), .int .i64 V] w1 fun e w' => (∃ u, e = .returned u) ∧ PK w p q most (.slice (some ⟨gr, 0, none⟩) k cr) rs (rowK rs r x.ts Li (j + 1)) (rowK rs r x.ts Li j) w') := hidIt (fun w1 h => by
                      rw [hnext]
                      exact (two_setH h.1 r (j : Int) V hn hf).mono fun e w' ⟨a, b, c⟩ => ⟨a, h.step b c⟩)
                    have GR : Hid (∀ w1, PK w p q most (.slice (some ⟨gr, 0, none⟩) k cr) rs (rowK rs r x.ts Li (j + 1)) (rowK rs r x.ts Li j) w1 → Calls Try.prog 30 #[.pointer (some ⟨q, 0, none⟩), .int .i64 r, .int .i64 (j : Int), .int .i64 V] w1 fun e w' => (∃ u, e = .returned u) ∧ PK w p q most (.slice (some ⟨gr, 0, none⟩) k cr) rs (rowK rs r x.ts Li (j + 1)) (rowK rs r x.ts Li (j + 1)) w') := hidIt (fun w1 h => by
                      rw [hnext] at h ⊢
                      exact (two_setR h.1 r (j : Int) V hn hf).mono fun e w' ⟨a, b, c⟩ => ⟨a, h.step b c⟩)
                    have NX : Hid (∀ w', PK w p q most (.slice (some ⟨gr, 0, none⟩) k cr) rs (rowK rs r x.ts Li (j + 1)) (rowK rs r x.ts Li (j + 1)) w' → ∃ j' : Nat, j' ≤ K ∧ Value.int .i64 ((j : Int) + 1) = .int .i64 (j' : Int) ∧ PK w p q most (.slice (some ⟨gr, 0, none⟩) k cr) rs (rowK rs r x.ts Li j') (rowK rs r x.ts Li j') w' ∧ RefsOk shp4 (rowK rs r x.ts Li j')) := hidIt (fun w' h => ⟨j + 1, by omega, by go_num, h, hr2⟩)
                    unfold valV at hVe
                    have HTT := hidIt ht
                    clear hp hr hn hf hnext hr2 ht HNX HK hts2
                    cases hb : refZ shp4 (rowK rs r x.ts Li j) r (j : Int) with
                    | false =>
                      rw [hb] at hVe GI
                      simp only [if_false, Bool.false_eq_true] at hVe
                      subst hVe
                      clear hb
                      go_wp2_with (first
                        | (go_at_call 27; refine GL2.out.mono ?_; rintro e w' ⟨rfl, hww⟩; cases hww)
                        | (go_at_call 28; refine GI.out.mono ?_; rintro e w' ⟨rfl, hq⟩; have d3 := HO.out _ _ _ hq i r HRI.out; have GH2 := hidIt (GH.out _ hq); clear hq GH GI)
                        | (go_at_call 29; refine GH2.out.mono ?_; rintro e w' ⟨⟨u, rfl⟩, hq⟩; have e3 := HO.out _ _ _ hq i r HRI.out; have GR2 := hidIt (GR.out _ hq); clear hq GH2 GR)
                        | (go_at_call 30; refine GR2.out.mono ?_; rintro e w' ⟨⟨u, rfl⟩, hq⟩; have NX2 := hidIt (NX.out _ hq); clear hq GR2 NX))
                      exact ⟨NX2.out, by simp [intOf]; omega⟩
                    | true =>
                      rw [hb] at hVe GI
                      simp only [if_true] at hVe
                      clear hb
                      by_cases h0 : 0 ≤ t
                      · rw [if_pos h0] at hVe
                        obtain ⟨tn, rfl⟩ : ∃ tn : Nat, t = (tn : Int) := ⟨t.toNat, by omega⟩
                        rw [Int.toNat_natCast, hrl] at hVe
                        have hkp : 0 < k := by omega
                        have hjk : tn % k < k := Nat.mod_lt _ hkp
                        have hVV : rs[tn % k]? = some V := by rw [hVe, List.getElem?_eq_getElem (by omega)]; rfl
                        have hmod : (tn : Int).tmod (k : Int) = ((tn % k : Nat) : Int) := by rw [Int.tmod_eq_emod_of_nonneg (by omega)]; omega
                        have HVV := hidIt hVV
                        clear hVV hVe
                        generalize tn % k = tj at *
                        have hjk' : (tj : Int) < (k : Int) := by omega
                        have hk0 : ¬ (k : Int) = 0 := by omega
                        go_wp2_with (first
                          | (go_at_call 27; refine GL2.out.mono ?_; rintro e w' ⟨rfl, hww⟩; cases hww)
                          | (go_at_call 28; refine GI.out.mono ?_; rintro e w' ⟨rfl, hq⟩; obtain ⟨d2, -⟩ := HC.out _ hq.2.2; have d4 := HT.out _ hq.2.2; have d3 := HO.out _ _ _ hq i r HRI.out; have d5 := HO.out _ _ _ hq tj V HVV.out; have GH2 := hidIt (GH.out _ hq); clear hq GH GI)
                          | (go_at_call 29; refine GH2.out.mono ?_; rintro e w' ⟨⟨u, rfl⟩, hq⟩; have e3 := HO.out _ _ _ hq i r HRI.out; have GR2 := hidIt (GR.out _ hq); clear hq GH2 GR)
                          | (go_at_call 30; refine GR2.out.mono ?_; rintro e w' ⟨⟨u, rfl⟩, hq⟩; have NX2 := hidIt (NX.out _ hq); clear hq GR2 NX))
                        exact ⟨NX2.out, by simp [intOf]; omega⟩
                      · rw [if_neg h0] at hVe
                        subst hVe
                        go_wp2_with (first
                          | (go_at_call 27; refine GL2.out.mono ?_; rintro e w' ⟨rfl, hww⟩; cases hww)
                          | (go_at_call 28; refine GI.out.mono ?_; rintro e w' ⟨rfl, hq⟩; obtain ⟨d2, -⟩ := HC.out _ hq.2.2; have d4 := HT.out _ hq.2.2; have d3 := HO.out _ _ _ hq i r HRI.out; have GH2 := hidIt (GH.out _ hq); clear hq GH GI)
                          | (go_at_call 29; refine GH2.out.mono ?_; rintro e w' ⟨⟨u, rfl⟩, hq⟩; have e3 := HO.out _ _ _ hq i r HRI.out; have GR2 := hidIt (GR.out _ hq); clear hq GH2 GR)
                          | (go_at_call 30; refine GR2.out.mono ?_; rintro e w' ⟨⟨u, rfl⟩, hq⟩; have NX2 := hidIt (NX.out _ hq); clear hq GR2 NX))
                        exact ⟨NX2.out, by simp [intOf]; omega⟩
                  · have hNX := HNX.out j wr hp hr (by omega)
                    have HN2 := hidIt hNX
                    have hjo : ¬ j < M ∨ ¬ j < x.ts.length := by have := HK.out; omega
                    clear hp hr hNX HNX
                    rcases hjo with hjo | hjo
                    · have hj1 : ¬ (j : Int) < (M : Int) := by omega
                      go_wp2_with (go_at_call 27; refine GL2.out.mono ?_; rintro e w' ⟨rfl, hww⟩; cases hww)
                      exact ⟨HN2.out, by simp [intOf]; omega⟩
                    · have hj1 : ¬ (j : Int) < (x.ts.length : Int) := by omega
                      go_wp2_with (go_at_call 27; refine GL2.out.mono ?_; rintro e w' ⟨rfl, hww⟩; cases hww)
                      all_goals exact ⟨HN2.out, by simp [intOf]; omega⟩
              · have hlt' : ¬ (i : Int) < (k : Int) := by omega
                obtain rfl : i = k := by omega
                have FF := hidIt (FIN.out wr hp hr)
                clear hp hr FIN
                go_wp2_with fail
                go_ret3
                simpa [Act.put] using FF.out
end Go.Proofs.Ytbdeflpjplhafaa.J

