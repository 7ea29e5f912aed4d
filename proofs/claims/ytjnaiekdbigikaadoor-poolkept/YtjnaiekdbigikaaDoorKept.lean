/- PoolKept, walked. -/
import Derived.Test.YtjnaiekdbigikaaDoorKP
import Derived.Test.YtjnaiekdbigikaaDoorPA
import Derived.Test.YtjnaiekdbigikaaDoorPN
import Derived.Test.YtjnaiekdbigikaaDoorPG
import Derived.Deep.CutRange
namespace Go.Proofs.YtjnaiekdbigikaaDoor.K
open Go.RowKit

theorem IsBk.move {B pb : Nat} {w w' : World} {L W : Value} {held : Int} {its : List It} (h : IsBk B pb w L W held its) (hb : ∀ k, k < w.heap.size → (B ≤ k ∨ k = pb) → w'.heap[k]? = w.heap[k]?) : IsBk B pb w' L W held its := by
  have own : ∀ {n : Nat} {v : Value} {xs : List Value}, w.ownsRow B 30 5 v n xs → w'.ownsRow B 30 5 v n xs := fun ho =>
    own_keep ho fun g cur hg hc => hb g (Array.getElem?_eq_some_iff.1 hc).1 (.inl (ho.lt g hg).1)
  exact ⟨(hb pb (Array.getElem?_eq_some_iff.1 h.blk).1 (.inr rfl)).trans h.blk, h.sl.keep fun g hg hlt => hb g hlt (.inl (h.sl.lt g hg).1), h.sw.keep fun g hg hlt => hb g hlt (.inl (h.sw.lt g hg).1), h.ne, fun p hp => ⟨own (h.fine p hp).l, own (h.fine p hp).c, (h.fine p hp).b⟩, h.away⟩
theorem IsBk.below {B pb : Nat} {w w' : World} {L W : Value} {held : Int} {its : List It} (h : IsBk B pb w L W held its) (hb : Below w.heap.size w w') : IsBk B pb w' L W held its := h.move fun k hk _ => hb.block k hk
theorem IsBk.new {B pb n : Nat} {w w' : World} {L W vl : Value} {held : Int} {its : List It} {xs : List Value} (h : IsBk B pb w L W held its) (ho : w'.ownsRow w.heap.size 30 5 vl n xs) : ∀ p ∈ its, ∀ g, p.l.ownBlock = some g → vl.ownBlock ≠ some g := by
  intro p hp g hg e
  have h1 := (ho.lt g e).1
  obtain ⟨cur, hc⟩ := (Mem.of_own (h.fine p hp).l).five hg
  have h2 := (Array.getElem?_eq_some_iff.1 hc).1
  omega
theorem addZ_ok {l : List CD} {c : CD} (hl : ∀ x ∈ l, x.Ok) (hc : c.Ok) (hn : l.length ≤ 20) : (∀ x ∈ (addZ l c).1, x.Ok) ∧ (addZ l c).1.length ≤ 21 := by
  unfold addZ
  split
  · split
    · exact ⟨hl, by simp only; omega⟩
    · split
      · simp
      · refine ⟨fun x hx => ?_, by simp only [List.length_append, List.length_singleton]; omega⟩
        rcases List.mem_append.1 hx with hx | hx
        · exact hl x hx
        · simp at hx; subst hx; exact hc
  · simp

set_option maxRecDepth 20000 in
set_option maxHeartbeats 4000000 in
theorem kept_any (v : Value) (l0 : List CD) (w : World) (hT : Tabs w) (hv0 : CView w v l0) : Calls Tryd.prog 7 #[v] w fun e w' => e = .returned (.bool true) ∧ Below w.heap.size w w' := by
  have HB0 : Hid (IsBk (w.heap.size + 1) w.heap.size (w.alloc (.cells #[.slice none 0 0, .slice none 0 0, .int .i64 0, .bool false] 66)) (.slice none 0 0) (.slice none 0 0) 0 []) :=
    ⟨heap_alloc_new w _, .inl ⟨rfl, rfl⟩, .inl ⟨rfl, rfl⟩, fun g h => by simp [Value.ownBlock] at h, by simp, List.Pairwise.nil⟩
  have b0 : Below w.heap.size w (w.alloc (.cells #[.slice none 0 0, .slice none 0 0, .int .i64 0, .bool false] 66)) := (Below.refl _ _).alloc (Nat.le_refl _) _
  have z0 : w.heap.size + 1 ≤ (w.alloc (.cells #[.slice none 0 0, .slice none 0 0, .int .i64 0, .bool false] 66)).heap.size := by simp
  obtain ⟨ao, cap, rfl, hcap, hm, hok0, _⟩ := id hv0
  unfold maxLen at hm
  obtain ⟨l, hl20, hvl, hln⟩ : ∃ l : List CD, l.length ≤ 20 ∧ CView w (.slice ao l.length cap) l ∧ ((20 < l0.length ∧ l.length = 20) ∨ (l0.length ≤ 20 ∧ l.length = l0.length)) := by
    by_cases h : 20 < l0.length
    · have e : (l0.take 20).length = 20 := by rw [List.length_take]; omega
      refine ⟨l0.take 20, by omega, ?_, .inl ⟨h, e⟩⟩
      rw [e]
      exact gview_take hv0 (by omega)
    · exact ⟨l0, by omega, hv0, .inr ⟨by omega, rfl⟩⟩
  have hok := hvl.ok
  clear hv0
  have HN := fun n w => D.hidIt (number_any n w)
  unfold numC CD.val at HN
  go_enter Tryd.func7, Tryd.ntmps7
  go_upto_if 10 with fail
  go_cut [0] from 8 to 12 (fun s0 wx => s0 = .slice ao l.length cap ∧ wx = w)
  case first =>
    rcases hln with ⟨h1, h2⟩ | ⟨h1, h2⟩
    · have h1' : (20 : Int) < (l0.length : Int) := by omega
      have h3 : (20 : Int) ≤ (cap : Int) := by omega
      have H2 := D.hidIt h2
      clear h2
      go_wp2
      go_meet
      exact ⟨by rw [H2.out], rfl⟩
    · have h1' : ¬ (20 : Int) < (l0.length : Int) := by omega
      have H2 := D.hidIt h2
      clear h2
      go_wp2
      go_meet
      exact ⟨by rw [H2.out], rfl⟩
  case rest =>
    obtain ⟨rfl, hwx⟩ := hcut
    subst wc
    clear hln hok0 hcap
    go_wp2_with fail
    go_loopw [4] (fun i wr => ∃ (k : Nat) (L W : Value) (held : Int) (its : List It), i = .int .i64 (k : Int) ∧ k ≤ 2 ∧ IsBk (w.heap.size + 1) w.heap.size wr L W held its ∧ its.length ≤ k ∧ Below w.heap.size w wr ∧ w.heap.size + 1 ≤ wr.heap.size) (fun i _ => 2 - (intOf i).toNat)
    case atStart => exact ⟨0, _, _, _, [], rfl, by omega, HB0.out, by simp, b0, z0⟩
    case round =>
      clear HB0 b0 z0
      obtain ⟨k, L, W, held, its, rfl, hk, HB, hlen, hbw, hz⟩ := hrel
      by_cases hlt : k < 2
      · have hlt' : (k : Int) < 2 := by omega
        go_wp2_with fail
        refine (HN _ _).out.mono ?_
        rintro e w1 ⟨rfl, b1⟩
        have B1 : Below w.heap.size w w1 := hbw.trans (b1.mono hbw.size)
        have z1 := b1.size
        have hcok := numC_ok (k : Int) (by omega) (by omega)
        have HAd := D.hidIt (add_any _ l (numC (k : Int)) w1 (hvl.below B1) hcok (by omega))
        have hao := addZ_ok hok hcok hl20
        generalize addZ l (numC (k : Int)) = az at *
        obtain ⟨m, n1, n2⟩ := az
        simp only at HAd hao
        unfold numC CD.val at HAd
        go_wp2_with fail
        refine HAd.out.mono ?_
        rintro e w2 ⟨b2, v2, rfl, o2⟩
        have HB1 := HB.below b1
        have hn := HB1.new o2
        have HB2 := HB1.below b2
        have o2' := own_wk o2 (by omega : w.heap.size + 1 ≤ w1.heap.size)
        have z2 := b2.size
        have B2 : Below w.heap.size w w2 := B1.trans (b2.mono B1.size)
        clear HB HB1 b1 b2 hbw HAd
        have HKeep := D.hidIt (keep_any (w.heap.size + 1) w.heap.size L W v2 held its m w2 HB2 o2' hao.1 hn (by omega) (by omega) (by omega) (by omega))
        obtain ⟨ao2, cap2, rfl⟩ := cown_slice o2
        clear hn HB2 o2'
        go_wp2_with fail
        refine HKeep.out.mono ?_
        rintro e w3 ⟨rfl, K, L', W', held', its', HB3, hl3, -⟩
        have B3 : Below w.heap.size w w3 := B2.trans (K.below (by omega) (Nat.le_refl _) (by omega))
        have z3 := K.size
        clear K HKeep o2
        go_wp2
        exact ⟨⟨k + 1, L', W', held', its', by go_num, by omega, HB3, by omega, B3, by omega⟩, by simp [intOf]; omega⟩
      · have hlt' : ¬ (k : Int) < 2 := by omega
        have HA := D.hidIt (apart_any (w.heap.size + 1) w.heap.size w.heap.size L W held its wr HB (by omega) (by omega) (Nat.le_refl _) (by omega))
        clear HB
        go_wp2_with fail
        refine HA.out.mono ?_
        rintro e w2 ⟨rfl, b2⟩
        have B2 := hbw.trans b2
        clear HA hbw b2
        go_wp2_with fail
        refine (known_any w2 (hT.below B2)).mono ?_
        rintro e w3 ⟨rfl, b3⟩
        go_wp2
        go_ret
        exact ⟨rfl, B2.trans (b3.mono B2.size)⟩
end Go.Proofs.YtjnaiekdbigikaaDoor.K
