/- Add: walked. -/
import Derived.Test.YtjnaiekdbigikaaDoorPI
import Derived.Deep.RegionLaw
import Derived.Deep.AppendLies
namespace Go.Proofs.YtjnaiekdbigikaaDoor
open Go.RowKit

/-- What Add answers. -/
def addZ (l : List CD) (c : CD) : List CD × Int × Int :=
  if rightB c = true then
    match idxO c l with
    | some k => (l, (k : Int), 0)
    | none => if 256 ≤ l.length then ([], 0, 4) else (l ++ [c], (l.length : Int), 0)
  else ([], 0, 14)
theorem addZ_no {l : List CD} {c : CD} (h : rightB c = false) : addZ l c = ([], 0, 14) := by unfold addZ; rw [if_neg (by simp [h])]
theorem addZ_has {l : List CD} {c : CD} {k : Nat} (h : rightB c = true) (hk : idxO c l = some k) : addZ l c = (l, (k : Int), 0) := by unfold addZ; rw [if_pos h, hk]
theorem addZ_full {l : List CD} {c : CD} (h : rightB c = true) (hk : idxO c l = none) (hl : 256 ≤ l.length) : addZ l c = ([], 0, 4) := by unfold addZ; rw [if_pos h, hk]; simp [hl]
theorem addZ_more {l : List CD} {c : CD} (h : rightB c = true) (hk : idxO c l = none) (hl : ¬ 256 ≤ l.length) : addZ l c = (l ++ [c], (l.length : Int), 0) := by unfold addZ; rw [if_pos h, hk]; simp [hl]

theorem own_base {w : World} {B B' s n : Nat} {e : TypeId} {v : Value} {xs : List Value} (h : w.ownsRow B e s v n xs) (hB : B' ≤ B) : w.ownsRow B' e s v n xs := by
  refine ⟨h.1, ?_⟩
  rcases h.2 with x | ⟨g, cap, cur, e, hb, r⟩
  · exact .inl x
  · exact .inr ⟨g, cap, cur, e, by omega, r⟩

set_option maxRecDepth 8000 in
set_option maxHeartbeats 4000000 in
theorem add_any (v : Value) (l : List CD) (c : CD) (w : World) (hv : CView w v l) (hc : c.Ok) (hlen : l.length * 64 ≤ 140737488355328) :
    Calls Tryd.prog 11 #[v, c.val] w fun e w' => Below w.heap.size w w' ∧ ∃ v', e = .returned (.tuple #[v', .int .i64 (addZ l c).2.1, .int .i64 (addZ l c).2.2]) ∧ w'.ownsRow w.heap.size 30 5 v' (addZ l c).1.length (ccells (addZ l c).1) := by
  obtain ⟨i0, hi, hz0, hz1, hz2⟩ := info_parts Tryd.info30
  have hbx := box_at w c
  have b1 : Below w.heap.size w (w.alloc (.cells #[.int .i64 c.kind, .int .i32 c.n, .string c.cls, .string c.nm, .string c.dsc] 30)) := (Below.refl _ _).alloc (Nat.le_refl _) _
  have hv1 := hv.below b1
  have HR := fun w => D.hidIt (right_any c w hc.toFits)
  have HI := fun w (h : CView w v l) => D.hidIt (index_any v l c w h)
  have HC := fun w (h : CView w v l) => D.hidIt (cclone_any v l w h hlen)
  have HV := D.hidIt hv
  have hz1' : (w.alloc (.cells #[.int .i64 c.kind, .int .i32 c.n, .string c.cls, .string c.nm, .string c.dsc] 30)).heap.size = w.heap.size + 1 := by simp
  clear hv
  cases hr : rightB c with
  | false =>
    rw [addZ_no hr]
    rw [hr] at HR
    clear hr
    unfold CD.val at *
    go_enter Tryd.func11, Tryd.ntmps11
    go_wp2_with fail
    refine (HR _).out.mono ?_
    rintro e w2 ⟨rfl, b2⟩
    go_wp2
    go_ret3
    exact ⟨b1.trans (b2.mono (by omega)), _, rfl, World.ownsRow_nil _ _ _ _⟩
  | true =>
    rw [hr] at HR
    unfold idxZ at HI
    cases hk : idxO c l with
    | some k =>
      rw [addZ_has hr hk]
      rw [hk] at HI
      clear hr hk
      simp only at HI ⊢
      obtain ⟨ao, cap, rfl, _⟩ := id hv1
      unfold CD.val at *
      go_enter Tryd.func11, Tryd.ntmps11
      go_wp2_with fail
      refine (HR _).out.mono ?_
      rintro e w2 ⟨rfl, b2⟩
      have hs2 := b2.size
      rw [hz1'] at hs2
      have hv2 := hv1.below b2
      obtain ⟨c0, c1, c2, c3, c4⟩ := hbx.below b2
      go_wp2_with fail
      refine (HI _ hv2).out.mono ?_
      rintro e w3 ⟨rfl, b3⟩
      have hs3 := b3.size
      go_wp2_with fail
      refine (HC _ (hv2.below b3)).out.mono ?_
      rintro e w4 ⟨b4, v4, rfl, o4⟩
      have hs4 := b4.size
      go_wp2
      go_ret3
      refine ⟨b1.trans ((b2.mono (by omega)).trans ((b3.mono (by omega)).trans (b4.mono (by omega)))), _, rfl, o4.1, ?_⟩
      rcases o4.2 with x | ⟨g, cap, cur, e, hB, r⟩
      · exact .inl x
      · exact .inr ⟨g, cap, cur, e, by omega, r⟩
    | none =>
      rw [hk] at HI
      simp only at HI
      by_cases h256 : 256 ≤ l.length
      · rw [addZ_full hr hk h256]
        clear hr hk
        obtain ⟨ao, cap, rfl, _⟩ := id hv1
        have h256' : (256 : Int) ≤ (l.length : Int) := by omega
        unfold CD.val at *
        go_enter Tryd.func11, Tryd.ntmps11
        go_wp2_with fail
        refine (HR _).out.mono ?_
        rintro e w2 ⟨rfl, b2⟩
        have hs2 := b2.size
        rw [hz1'] at hs2
        have hv2 := hv1.below b2
        obtain ⟨c0, c1, c2, c3, c4⟩ := hbx.below b2
        go_wp2_with fail
        refine (HI _ hv2).out.mono ?_
        rintro e w3 ⟨rfl, b3⟩
        have hs3 := b3.size
        go_wp2
        go_ret3
        exact ⟨b1.trans ((b2.mono (by omega)).trans (b3.mono (by omega))), _, rfl, World.ownsRow_nil _ _ _ _⟩
      · rw [addZ_more hr hk h256]
        clear hr hk
        obtain ⟨ao, cap, rfl, _⟩ := id hv1
        have h256' : ¬ (256 : Int) ≤ (l.length : Int) := by omega
        unfold CD.val at *
        go_enter Tryd.func11, Tryd.ntmps11
        go_wp2_with fail
        refine (HR _).out.mono ?_
        rintro e w2 ⟨rfl, b2⟩
        have hs2 := b2.size
        rw [hz1'] at hs2
        have hv2 := hv1.below b2
        have hbx2 := hbx.below b2
        obtain ⟨c0, c1, c2, c3, c4⟩ := id hbx2
        go_wp2_with fail
        refine (HI _ hv2).out.mono ?_
        rintro e w3 ⟨rfl, b3⟩
        have hs3 := b3.size
        have b3d : Below w2.heap.size w2 w3.drew := ⟨b3.os, b3.tape, b3.output, b3.size, b3.block⟩
        have hv3 := hv2.below b3d
        have hbx3 := hbx2.below b3d
        clear c0 c1 c2 c3 c4 hbx2 hv2 HI HR
        obtain ⟨c0, c1, c2, c3, c4⟩ := id hbx3
        have hbn : ∀ o, Below w3.drew.heap.size w3.drew (w3.drew.alloc o) := fun o => (Below.refl _ _).alloc (Nat.le_refl _) o
        have HC0 := HC _ hv3
        have HC1 := HC _ (hv3.below (hbn (.cells #[.int .i64 c.kind, .int .i32 c.n, .string c.cls, .string c.nm, .string c.dsc] 30)))
        have B3 : Below w.heap.size w w3.drew := b1.trans ((b2.mono (by omega)).trans (b3d.mono (by omega)))
        have hsd : w3.drew.heap.size = w3.heap.size := rfl
        have hl256 : l.length < 256 := by omega
        have hcz : (ccells l ++ [.int .i64 c.kind, .int .i32 c.n, .string c.cls, .string c.nm, .string c.dsc]) = ccells (l ++ [c]) := by rw [ccells_append]; rfl
        have HCZ := D.hidIt hcz
        clear hcz HC HV hv1 b1 b2 b3 b3d hbx hz1'
        go_wp2_with fail
        go_region_law
          (first
            | (go_simp; go_at_call 38; refine HC0.out.mono ?_; rintro e w4 ⟨b4, v4, rfl, o4⟩; obtain ⟨ao4, cap4, rfl⟩ := cown_slice o4; obtain ⟨d0, d1, d2, d3, d4⟩ := hbx3.below b4; have hs4 : w3.heap.size ≤ w4.heap.size := b4.size)
            | (go_simp; go_at_call 38; refine HC1.out.mono ?_; rintro e w4 ⟨b4, v4, rfl, o4⟩; obtain ⟨ao4, cap4, rfl⟩ := cown_slice o4; have hn4 := (b4.block w3.heap.size (by simp)).trans (heap_alloc_new w3.drew _); have hs4 : w3.heap.size + 1 ≤ w4.heap.size := (by have := b4.size; simpa using this))
            | (refine step_append_lies _ (by rfl) _ _ _ (by rfl) w3.heap.size 30 i0 _ 5 64 Tryd.underlying26 hi hz0 hz1 hz2 rfl (by omega) (.slice ao4 l.length cap4) _ _ (by rfl) (o4.alloc _) ⟨w4.heap.size, 0, none⟩ 1 1 [.int .i64 c.kind, .int .i32 c.n, .string c.cls, .string c.nm, .string c.dsc] (by rfl) rfl (World.news_of_block (heap_alloc_new _ _)) (by intro u hu; simp at hu; rcases hu with rfl | rfl | rfl | rfl | rfl <;> rfl) (by omega) (by unfold maxLen; omega) (by omega) (by simp; omega) _ rfl ?_; intro gg cap2 w5 hown2 hgrow hat hlt)
            | (refine step_append_lies _ (by rfl) _ _ _ (by rfl) _ 30 i0 _ 5 64 Tryd.underlying26 hi hz0 hz1 hz2 rfl (by omega) (.slice ao4 l.length cap4) _ _ (by rfl) o4 ⟨w3.heap.size, 0, none⟩ 1 1 [.int .i64 c.kind, .int .i32 c.n, .string c.cls, .string c.nm, .string c.dsc] (by rfl) rfl (World.news_of_block hn4) (by intro u hu; simp at hu; rcases hu with rfl | rfl | rfl | rfl | rfl <;> rfl) (by omega) (by unfold maxLen; omega) (by omega) b4.size _ rfl ?_; intro gg cap2 w5 hown2 hgrow hat hlt)
            )
        all_goals
          have B5 : Below w.heap.size w w5 := by
            first
              | exact ((B3.trans (b4.mono (by omega))).alloc (by omega) _).grown hgrow (by simp; omega) (fun k hk => by have := (o4.lt k hk).1; omega)
              | exact ((B3.alloc (by omega) _).trans (b4.mono (by simp; omega))).grown hgrow (by omega) (fun k hk => by have := (o4.lt k hk).1; simp at this; omega)
          have O5 := own_base (B' := w.heap.size) hown2 (by first | omega | (simp; omega))
          rw [HCZ.out] at O5
          clear hgrow hown2 hat hlt
          go_wp2
          go_ret3
          refine ⟨B5, _, rfl, ?_⟩
          rw [List.length_append]
          exact O5
end Go.Proofs.YtjnaiekdbigikaaDoor
