/- The document's own Get and Add: walked. -/
import Derived.Test.YtjnaiekdbigikaaDoorRR
import Derived.Test.YtjnaiekdbigikaaDoorPH
import Derived.Deep.QuietTactic
import Derived.BigQuiet
import Derived.Deep.CutRange
namespace Go.Proofs.YtjnaiekdbigikaaDoor
open Go.RowKit

set_option maxRecDepth 8000 in
set_option maxHeartbeats 1000000 in
theorem rget_any (v : Value) (l : List CD) (n kind : Int) (w : World) (hv : CView w v l) :
    Calls Tryd.prog 19 #[v, .int .i64 n, .int .i64 kind] w fun e w' => e = .returned (.tuple #[(getZ l n kind).1.val, .bool (decide ((getZ l n kind).2 = 0))]) ∧ Below w.heap.size w w' := by
  obtain ⟨ao, cap, rfl, hc, hm, _, hl⟩ := hv
  unfold maxLen at hm
  have b1 : ∀ o, Below w.heap.size w (w.alloc o) := fun o => (Below.refl _ _).alloc (Nat.le_refl _) o
  have hz : decide ((14 : Int) = 0) = false := by decide
  have hy : decide ((0 : Int) = 0) = true := by decide
  by_cases h0 : n < 0
  · rw [getZ_neg kind h0, hz]
    go_enter Tryd.func19, Tryd.ntmps19
    go_wp2
    go_returns
    exact ⟨rfl, b1 _⟩
  · by_cases h1 : n < (l.length : Int)
    · obtain ⟨g, off, rfl, hla⟩ : ∃ g off, ao = some ⟨g, off, none⟩ ∧ CLies w g off l := by
        rcases hl with e | h
        · rw [e] at h1; simp at h1; omega
        · exact h
      clear hl
      obtain ⟨k, rfl⟩ : ∃ k : Nat, n = (k : Int) := ⟨n.toNat, by omega⟩
      have hk : k < l.length := by omega
      rw [getZ_at kind hk]
      obtain ⟨c0, c1, c2, c3, c4⟩ := (hla k l[k] (by simp [hk])).allocs
      generalize l[k] = c at *
      clear hla
      by_cases hkd : c.kind = kind
      · rw [if_pos hkd, hy]
        subst hkd
        obtain ⟨kd, n, cls, nm, dsc⟩ := c
        simp only at c0 c1 c2 c3 c4 ⊢
        go_enter Tryd.func19, Tryd.ntmps19
        go_wp2
        go_returns
        exact ⟨rfl, b1 _⟩
      · rw [if_neg hkd, hz]
        obtain ⟨kd, n, cls, nm, dsc⟩ := c
        simp only at c0 c1 c2 c3 c4 hkd ⊢
        have hb : (kd != kind) = true := by simpa using hkd
        go_enter Tryd.func19, Tryd.ntmps19
        go_wp2
        go_returns
        exact ⟨rfl, b1 _⟩
    · rw [getZ_far kind (by omega), hz]
      go_enter Tryd.func19, Tryd.ntmps19
      go_wp2
      go_returns
      exact ⟨rfl, b1 _⟩

theorem ceq_comm (c d : CD) : ceq c d = ceq d c := by
  cases h : ceq c d with
  | true => have := (ceq_iff c d).1 h; subst this; exact h.symm
  | false =>
    cases h2 : ceq d c with
    | true => have := (ceq_iff d c).1 h2; subst this; rw [h] at h2; cases h2
    | false => rfl

set_option maxRecDepth 8000 in
set_option maxHeartbeats 4000000 in
theorem radd_any (v : Value) (l : List CD) (c : CD) (w : World) (hv : CView w v l) (hc : c.Small) (hlen : l.length * 64 ≤ 70368744177664) :
    Calls Tryd.prog 20 #[v, c.val] w fun e w' => Below w.heap.size w w' ∧ ∃ v', e = .returned (.tuple #[v', .int .i64 (addZ l c).2.1, .int .i64 (addZ l c).2.2]) ∧ w'.ownsRow w.heap.size 30 5 v' (addZ l c).1.length (ccells (addZ l c).1) := by
  obtain ⟨i0, hi, hz0, hz1, hz2⟩ := info_parts Tryd.info30
  have hbx := box_at w c
  have b1 : Below w.heap.size w (w.alloc (.cells #[.int .i64 c.kind, .int .i32 c.n, .string c.cls, .string c.nm, .string c.dsc] 30)) := (Below.refl _ _).alloc (Nat.le_refl _) _
  have hv1 := hv.below b1
  have HR := fun w => D.hidIt (rright_any c w hc)
  have hz1' : (w.alloc (.cells #[.int .i64 c.kind, .int .i32 c.n, .string c.cls, .string c.nm, .string c.dsc] 30)).heap.size = w.heap.size + 1 := by simp
  cases hr : rightB c with
  | false =>
    rw [addZ_no hr]
    rw [hr] at HR
    clear hr
    unfold CD.val at *
    go_enter Tryd.func20, Tryd.ntmps20
    go_wp2_with fail
    refine (HR _).out.mono ?_
    rintro e w2 ⟨rfl, b2⟩
    go_wp2
    go_ret3
    exact ⟨b1.trans (b2.mono (by omega)), _, rfl, World.ownsRow_nil _ _ _ _⟩
  | true =>
    rw [hr] at HR
    have HRT := D.hidIt hr
    have HZ : Hid (addZ l c = addZ l c) := rfl
    generalize hAZ : addZ l c = AZ at *
    have HAZ := D.hidIt hAZ
    have HEQ : Hid (∀ d wx, (binOp .eql 30 d.val c.val).run Tryd.prog wx = .ok (.bool (ceq d c)) wx) := fun d wx => run_ceq wx d c
    clear hr hAZ HZ
    obtain ⟨ao, cap, rfl, _, hm, hok, _⟩ := id hv1
    unfold maxLen at hm
    have hcz : Hid (ccells l ++ [.int .i64 c.kind, .int .i32 c.n, .string c.cls, .string c.nm, .string c.dsc] = ccells (l ++ [c])) := by show _ = _; rw [ccells_append]; rfl
    unfold CD.val at HR HEQ ⊢
    go_enter Tryd.func20, Tryd.ntmps20
    go_wp2_with fail
    refine (HR _).out.mono ?_
    rintro e w2 ⟨rfl, b2⟩
    have hs2 := b2.size
    rw [hz1'] at hs2
    have hv2 := hv1.below b2
    have hbx2 := hbx.below b2
    have B2 := b1.trans (b2.mono (by omega))
    have ba : Below w2.heap.size w2 (w2.alloc (.cells #[] 30)) := (Below.refl _ _).alloc (Nat.le_refl _) _
    have hown0 : (w2.alloc (.cells #[] 30)).ownsRow w2.heap.size 30 5 (.slice (some ⟨w2.heap.size, 0, none⟩) 0 0) 0 [] := World.ownsRow_made w2 #[] 0 (Nat.le_refl _) (by unfold maxLen; omega) rfl
    have hv2a := hv2.below ba
    go_wp2_with (at_builtin; refine wpList_cappend_view rfl _ _ rfl w2.heap.size _ _ _ _ l rfl hown0 rfl hv2a (by omega) (by simp) ?_; intro v3 w3 o3 g3 _)
    rw [Nat.zero_add, List.nil_append] at o3
    have B3 : Below w2.heap.size w2 w3 := ba.grown g3 (by simp) (fun k hk => (hown0.lt k hk).1)
    have z3 := B3.size
    have hv3 := hv2.below B3
    have hbx3 := hbx2.below B3
    have B3w := B2.trans (B3.mono (by omega))
    obtain ⟨ao3, cap3, rfl⟩ := cown_slice o3
    clear hbx2 hv2 hv2a hown0 g3 ba hbx hv1 b2 b1
    obtain ⟨_, _, ee, _, _, _, hl⟩ := id hv3
    cases ee
    go_wp2
    go_loopw [8] (fun i wr => ∃ k q : Nat, k ≤ l.length ∧ i = .int .i64 (k : Int) ∧ wr = w3.drewN q ∧ Hid (∀ x ∈ l.take k, ceq c x = false)) (fun i _ => l.length - (intOf i).toNat)
    case atStart => exact ⟨0, 0, by omega, rfl, rfl, fun x hx => by simp at hx⟩
    case round =>
      obtain ⟨k, q, hk, rfl, rfl, HN⟩ := hrel
      by_cases hlt : k < l.length
      · obtain ⟨g, off, rfl, hla⟩ : ∃ g off, ao = some ⟨g, off, none⟩ ∧ CLies w3 g off l := by
          rcases hl with e | h
          · rw [e] at hlt; simp at hlt
          · exact h
        have HL : Hid (l[k]? = some l[k]) := by show _ = _; simp [hlt]
        have hd := hla k l[k] (by simp [hlt])
        have h1 : (k : Int) < (l.length : Int) := by omega
        have he := HEQ.out l[k]
        clear hla hl
        generalize l[k] = d at *
        obtain ⟨d0, d1, d2, d3, d4⟩ := hd
        obtain ⟨c0, c1, c2, c3, c4⟩ := id hbx3
        generalize hcd : ceq d c = b at *
        have HCD := D.hidIt hcd
        clear hcd
        cases b
        · go_wp2
          go_quiet (fail)
          go_wp2
          refine ⟨⟨k + 1, _, by omega, by go_num, rfl, ?_⟩, by simp [intOf]; omega⟩
          intro x hx
          rw [List.take_add_one, HL.out] at hx
          rcases List.mem_append.1 hx with hx | hx
          · exact HN.out x hx
          · simp at hx; subst hx; rw [ceq_comm]; exact HCD.out
        · go_wp2
          go_quiet (fail)
          go_wp2
          go_ret3
          have e : AZ = (l, (k : Int), 0) := by
            rw [← HAZ.out]
            exact addZ_has HRT.out (idxO_some HL.out (by rw [ceq_comm]; exact HCD.out) HN.out)
          rw [e]
          exact ⟨below_drewN (below_drewN B3w _) _, _, rfl, own_base o3 (by omega)⟩
      · have h1 : ¬ (k : Int) < (l.length : Int) := by omega
        have HI : Hid (idxO c l = none) := idxO_none (fun x hx => HN.out x (by rw [List.take_of_length_le (by omega)]; exact hx))
        obtain ⟨c0, c1, c2, c3, c4⟩ := id hbx3
        by_cases h256 : 256 ≤ l.length
        · have h256' : (256 : Int) ≤ (l.length : Int) := by omega
          go_wp2
          go_ret3
          have e : AZ = ([], 0, 4) := by rw [← HAZ.out]; exact addZ_full HRT.out HI.out h256
          rw [e]
          exact ⟨below_drewN B3w _, _, rfl, World.ownsRow_nil _ _ _ _⟩
        · have h256' : ¬ (256 : Int) ≤ (l.length : Int) := by omega
          have o3q : (w3.drewN q).ownsRow w2.heap.size 30 5 (.slice ao3 l.length cap3) l.length (ccells l) := o3
          have B3q := below_drewN B3w q
          have z3q : w2.heap.size ≤ (w3.drewN q).heap.size := z3
          have C3q : CAt (w3.drewN q) w.heap.size 0 c := hbx3.block rfl
          clear c0 c1 c2 c3 c4
          obtain ⟨c0, c1, c2, c3, c4⟩ := id C3q
          generalize w3.drewN q = w4 at *
          go_wp2_with (at_builtin; refine wpList_append_own_at _ rfl _ _ 26 rfl w2.heap.size 30 i0 _ 5 64 Tryd.underlying26 hi hz0 hz1 hz2 rfl (by decide) _ _ _ rfl (o3q.alloc _) _ 1 1 [.int .i64 c.kind, .int .i32 c.n, .string c.cls, .string c.nm, .string c.dsc] rfl rfl ?q1 ?q2 ?q3 ?q4 ?q5 ?q6)
          case q2 => exact ⟨rfl, rfl, rfl, rfl, rfl⟩
          case q3 => unfold maxLen; omega
          case q4 => omega
          case q5 => omega
          intro v5 w5 o5 g5 _ _
          have B5 : Below w.heap.size w w5 := (B3q.alloc (by omega) _).grown g5 (by simp; omega) (fun k hk => by have := (o3q.lt k hk).1; omega)
          have O5 := own_base (B' := w.heap.size) o5 (by omega)
          rw [hcz.out] at O5
          go_wp2
          go_ret3
          have e : AZ = (l ++ [c], (l.length : Int), 0) := by rw [← HAZ.out]; exact addZ_more HRT.out HI.out h256
          rw [e]
          refine ⟨B5, _, rfl, ?_⟩
          rw [List.length_append]
          exact O5
end Go.Proofs.YtjnaiekdbigikaaDoor
