/- MutfWrites, walked. -/
import Derived.Test.YtnnoifofgbibmaaDoorRefW
import Derived.Test.YtnnoifofgbibmaaDoorOpP
namespace Go.Proofs.YtnnoifofgbibmaaDoor
open Go.RowKit

theorem PartAt.below {W W' : World} {g o : Nat} {p : PartD} (h : PartAt W g o p) (hb : Below W.heap.size W W') : PartAt W' g o p :=
  ⟨cell_later hb h.c0, cell_later hb h.c1, cell_later hb h.c2, cell_later hb h.c3, cell_later hb h.c4, h.raw.below hb, h.nlo, h.nhi, h.ssz, h.rsz⟩

theorem keep_wstep {pw k : Nat} {v v' : Value} {w w' : World} {o : Obj} (st : WStep pw v w v' w') (hk : w.heap[k]? = some o) (hp : k ≠ pw) (hv : some k ≠ v.ownBlock) : w'.heap[k]? = some o :=
  (st.block k (Array.getElem?_eq_some_iff.1 hk).1 hp hv).trans hk
theorem keep_below {k : Nat} {w w' : World} {o : Obj} (b : Below w.heap.size w w') (hk : w.heap[k]? = some o) : w'.heap[k]? = some o :=
  (b.block k (Array.getElem?_eq_some_iff.1 hk).1).trans hk
/-- The writer stands while another row grows. -/
theorem IsW.step {B pw : Nat} {w w' : World} {v u u' : Value} {l : List Int} (h : IsW B pw w v l) (st : Step u w u' w') (hp : some pw ≠ u.ownBlock) (hv : v.ownBlock = none ∨ v.ownBlock ≠ u.ownBlock) : IsW B pw w' v l := by
  refine ⟨(st.grown.block pw h.lt hp).trans h.at_, h.own.1, ?_⟩
  rcases h.own.2 with h2 | ⟨g, cap, cur, rfl, hB, hg, r⟩
  · exact .inl h2
  · refine .inr ⟨g, cap, cur, rfl, hB, ?_, r⟩
    rw [st.grown.block g (Array.getElem?_eq_some_iff.1 hg).1 ?_]
    · exact hg
    · rcases hv with hv | hv
      · simp [Value.ownBlock] at hv
      · exact hv

set_option maxHeartbeats 4000000 in
theorem writes_any (v : Value) (ps : List PartD) (w : World) (hT : Tabs w) (hp : Parts w v ps) :
    Calls Tryd.prog 6 #[v] w fun e w' => e = .returned (.bool true) ∧ Below w.heap.size w w' := by
  obtain ⟨ao, cap, rfl, hc, hm, hps⟩ := hp
  unfold maxLen at hm
  go_enter Tryd.func6, Tryd.ntmps6
  go_wp2_with fail
  refine (newW_any w).mono ?_
  rintro e w1 ⟨rfl, hw1⟩
  have W1 : IsW w.heap.size w.heap.size w1 (.slice none 0 0) [] := by rw [hw1]; exact newW_is w _
  have b1 : Below w.heap.size w w1 := by rw [hw1]; exact (Below.refl _ _).alloc (Nat.le_refl _) _
  clear hw1
  go_wp2
  go_loopw [4, 5] (fun want i wr => ∃ (k : Nat) (acc : List Int) (v : Value), i = .int .i64 (k : Int) ∧ k ≤ ps.length ∧ k ≤ 30 ∧ IsW w.heap.size w.heap.size wr v acc ∧ wr.ownsRow w.heap.size 5 1 want acc.length (bcells acc) ∧ (∀ g, want.ownBlock = some g → g ≠ w.heap.size ∧ some g ≠ v.ownBlock) ∧ Below w.heap.size w wr ∧ AllBytes acc ∧ acc.length ≤ k * 2000000) (fun _ i _ => 30 - (intOf i).toNat)
  case atStart => exact ⟨0, [], .slice none 0 0, rfl, Nat.zero_le _, Nat.zero_le _, W1, World.ownsRow_nil _ _ _ _, fun g h => by simp [Value.ownBlock] at h, b1, AllBytes.nil, by simp⟩
  case round =>
    clear W1 b1
    obtain ⟨k, acc, vw, rfl, hk, hk30, hW, hU, hsep, hbw, hab, hal⟩ := hrel
    by_cases hlt : k < ps.length ∧ k < 30
    · obtain ⟨hlt, hlt30⟩ := hlt
      obtain ⟨g, off, rfl, hpa⟩ : ∃ g off, ao = some ⟨g, off, none⟩ ∧ ∀ i p, ps[i]? = some p → PartAt w g (off + i * 5) p := by
        rcases hps with e | h
        · rw [e] at hlt; simp at hlt
        · exact h
      have hpt := (hpa k ps[k] (by simp [hlt]))
      generalize ps[k] = p at *
      have hpw := hpt.below hbw
      obtain ⟨kind, bytes, n, s, vr, lr⟩ := p
      obtain ⟨c0, c1, c2, c3, c4, hraw, -, -, hss, hrs⟩ := hpw
      simp only at c0 c1 c2 c3 c4 hraw hss hrs
      obtain ⟨aor, capr, rfl, -⟩ := id hraw
      have hraw0 : View w (.slice aor lr.length capr) lr := hpt.raw
      clear hpa hps hpt
      have hlt' : (k : Int) < (ps.length : Int) := by omega
      have hlt3' : (k : Int) < 30 := by omega
      have hzw := hbw.size
      have hal2 : acc.length ≤ 60000000 := by omega
      have hsl := hW.own.lt
      have hul := hU.lt
      have hpl := hW.lt
      -- the world in which the local copy lies
      have hb0 : ∀ o, Below wr.heap.size wr (wr.alloc o) := fun o => (Below.refl _ _).alloc (Nat.le_refl _) o
      have FIN : Hid (∀ (W3 : World) (u3 v3 : Value) (nw : List Int), AllBytes nw → nw.length ≤ 2000000 → IsW w.heap.size w.heap.size W3 v3 (acc ++ nw) → W3.ownsRow w.heap.size 5 1 u3 (acc ++ nw).length (bcells (acc ++ nw)) →
          (∀ g, u3.ownBlock = some g → g ≠ w.heap.size ∧ some g ≠ v3.ownBlock) → Below w.heap.size w W3 →
          (∃ (k' : Nat) (acc' : List Int) (v : Value), Value.int .i64 ((k : Int) + 1) = .int .i64 (k' : Int) ∧ k' ≤ ps.length ∧ k' ≤ 30 ∧ IsW w.heap.size w.heap.size W3 v acc' ∧ W3.ownsRow w.heap.size 5 1 u3 acc'.length (bcells acc') ∧ (∀ g, u3.ownBlock = some g → g ≠ w.heap.size ∧ some g ≠ v.ownBlock) ∧ Below w.heap.size w W3 ∧ AllBytes acc' ∧ acc'.length ≤ k' * 2000000) ∧ 30 - (intOf (.int .i64 ((k : Int) + 1))).toNat < 30 - (intOf (.int .i64 (k : Int))).toNat) := by
        intro W3 u3 v3 nw hb hn h1 h2 h3 h4
        exact ⟨⟨k + 1, acc ++ nw, v3, by go_num, by omega, by omega, h1, h2, h3, h4, hab.append hb, by rw [List.length_append]; omega⟩, by simp [intOf]; omega⟩
      by_cases k1 : kind = 1
      · subst k1
        go_wp2_with fail
        have hW0 := hW.below (hb0 (.cells #[.int .i64 1, .int .i64 bytes, .int .i64 n, .string s, .slice aor lr.length capr] 49))
        have hU0 := hU.alloc (.cells #[.int .i64 1, .int .i64 bytes, .int .i64 n, .string s, .slice aor lr.length capr] 49)
        have hL0 := heap_alloc_new wr (.cells #[.int .i64 1, .int .i64 bytes, .int .i64 n, .string s, .slice aor lr.length capr] 49)
        have hB0 := hbw.alloc hzw (.cells #[.int .i64 1, .int .i64 bytes, .int .i64 n, .string s, .slice aor lr.length capr] 49)
        have hz0 : (wr.alloc (.cells #[.int .i64 1, .int .i64 bytes, .int .i64 n, .string s, .slice aor lr.length capr] 49)).heap.size = wr.heap.size + 1 := by simp
        generalize wr.alloc (.cells #[.int .i64 1, .int .i64 bytes, .int .i64 n, .string s, .slice aor lr.length capr] 49) = W0 at *
        refine (wnum_any w.heap.size w.heap.size vw acc n bytes W0 hW0 (by omega) (by omega)).mono ?_
        rintro e w2 ⟨rfl, v2, hW2, st2⟩
        have hL2 := keep_wstep st2 hL0 (by omega) (fun e => by have := hsl _ e.symm; omega)
        have d1 : w2.cell? ⟨wr.heap.size, 1, none⟩ = some (.int .i64 bytes) := by rw [cell_of_row w2 _ 1 _ 49 (0, 0) hL2]; rfl
        have d2 : w2.cell? ⟨wr.heap.size, 2, none⟩ = some (.int .i64 n) := by rw [cell_of_row w2 _ 2 _ 49 (0, 0) hL2]; rfl
        have hU2 := own_wstep st2 hU0 (fun e => (hsep _ e).1 rfl) (by
          cases hx : u4.ownBlock with
          | none => exact .inl rfl
          | some q => exact .inr (hsep q hx).2)
        have V2 := View.of_own hU2 hab
        have z2 := st2.size
        have hB2 : Below w.heap.size w w2 := hB0.trans ⟨st2.os, st2.tape, st2.output, st2.size, fun q hq => st2.block q (by omega) (by omega) (fun e => by have := hsl _ e.symm; omega)⟩
        have hzB2 := hB2.size
        have hv2 := hW2.own.lt
        have hp2 := hW2.lt
        clear hL2 hL0 hU0 hW0
        go_wp2_with fail
        refine (refnum_any u4 acc n bytes w2 V2 (by omega)).mono ?_
        rintro e w3 ⟨b3, u3, rfl, o3⟩
        have hu3 := o3.lt
        go_wp2
        refine FIN.out w3 u3 v2 _ (be_bytes _ _) (by rw [be_len]; omega) (hW2.below b3) (own_weaken o3 (by omega)) (fun q hq => ⟨?_, fun e => ?_⟩) (hB2.trans (b3.mono hzB2))
        · have := hu3 q hq; omega
        · have h1 := hu3 q hq
          have h2 := hv2 q e.symm
          omega
      · have kb1 : (kind == 1) = false := by simpa using k1
        by_cases k2 : kind = 2
        · subst k2
          go_wp2_with fail
          have hW0 := hW.below (hb0 (.cells #[.int .i64 2, .int .i64 bytes, .int .i64 n, .string s, .slice aor lr.length capr] 49))
          have hU0 := hU.alloc (.cells #[.int .i64 2, .int .i64 bytes, .int .i64 n, .string s, .slice aor lr.length capr] 49)
          have hL0 := heap_alloc_new wr (.cells #[.int .i64 2, .int .i64 bytes, .int .i64 n, .string s, .slice aor lr.length capr] 49)
          have hB0 := hbw.alloc hzw (.cells #[.int .i64 2, .int .i64 bytes, .int .i64 n, .string s, .slice aor lr.length capr] 49)
          have hz0 : (wr.alloc (.cells #[.int .i64 2, .int .i64 bytes, .int .i64 n, .string s, .slice aor lr.length capr] 49)).heap.size = wr.heap.size + 1 := by simp
          have hR0 := hraw.below (hb0 (.cells #[.int .i64 2, .int .i64 bytes, .int .i64 n, .string s, .slice aor lr.length capr] 49))
          generalize wr.alloc (.cells #[.int .i64 2, .int .i64 bytes, .int .i64 n, .string s, .slice aor lr.length capr] 49) = W0 at *
          have hTT := hT.below hB0
          refine (wtext_any w.heap.size w.heap.size vw acc s W0 hW0 (by omega) (by omega) hTT (by omega)).mono ?_
          rintro e w2 ⟨rfl, v2, hW2, st2⟩
          have hL2 := keep_wstep st2 hL0 (by omega) (fun e => by have := hsl _ e.symm; omega)
          have d3 : w2.cell? ⟨wr.heap.size, 3, none⟩ = some (.string s) := by rw [cell_of_row w2 _ 3 _ 49 (0, 0) hL2]; rfl
          have d4 : w2.cell? ⟨wr.heap.size, 4, none⟩ = some (.slice aor lr.length capr) := by rw [cell_of_row w2 _ 4 _ 49 (0, 0) hL2]; rfl
          have hU2 := own_wstep st2 hU0 (fun e => (hsep _ e).1 rfl) (by
            cases hx : u4.ownBlock with
            | none => exact .inl rfl
            | some q => exact .inr (hsep q hx).2)
          have V2 := View.of_own hU2 hab
          have z2 := st2.size
          have hB2 : Below w.heap.size w w2 := hB0.trans ⟨st2.os, st2.tape, st2.output, st2.size, fun q hq => st2.block q (by omega) (by omega) (fun e => by have := hsl _ e.symm; omega)⟩
          have hzB2 := hB2.size
          have hv2 := hW2.own.lt
          have hp2 := hW2.lt
          clear hL2 hL0 hU0 hW0
          go_wp2_with fail
          refine (reftext_any u4 acc s w2 V2 (by omega) (by omega)).mono ?_
          rintro e w3 ⟨b3, u3, rfl, o3⟩
          have hu3 := o3.lt
          have hwl := wtextZ_len s
          go_wp2
          refine FIN.out w3 u3 v2 _ (wtextZ_bytes s) (by omega) (hW2.below b3) (own_weaken o3 (by omega)) (fun q hq => ⟨?_, fun e => ?_⟩) (hB2.trans (b3.mono hzB2))
          · have := hu3 q hq; omega
          · have h1 := hu3 q hq
            have h2 := hv2 q e.symm
            omega
        · have kb2 : (kind == 2) = false := by simpa using k2
          by_cases k3 : kind = 3
          · subst k3
            go_wp2_with fail
            have hW0 := hW.below (hb0 (.cells #[.int .i64 3, .int .i64 bytes, .int .i64 n, .string s, .slice aor lr.length capr] 49))
            have hU0 := hU.alloc (.cells #[.int .i64 3, .int .i64 bytes, .int .i64 n, .string s, .slice aor lr.length capr] 49)
            have hL0 := heap_alloc_new wr (.cells #[.int .i64 3, .int .i64 bytes, .int .i64 n, .string s, .slice aor lr.length capr] 49)
            have hB0 := hbw.alloc hzw (.cells #[.int .i64 3, .int .i64 bytes, .int .i64 n, .string s, .slice aor lr.length capr] 49)
            have hz0 : (wr.alloc (.cells #[.int .i64 3, .int .i64 bytes, .int .i64 n, .string s, .slice aor lr.length capr] 49)).heap.size = wr.heap.size + 1 := by simp
            have hR0 := hraw.below (hb0 (.cells #[.int .i64 3, .int .i64 bytes, .int .i64 n, .string s, .slice aor lr.length capr] 49))
            generalize wr.alloc (.cells #[.int .i64 3, .int .i64 bytes, .int .i64 n, .string s, .slice aor lr.length capr] 49) = W0 at *
            have hlby : AllBytes lr := by obtain ⟨_, _, _, _, _, h, _⟩ := hraw; exact h
            refine (wbytes_any w.heap.size w.heap.size vw (.slice aor lr.length capr) acc lr W0 hW0 hR0 (by omega) (by omega)).mono ?_
            rintro e w2 ⟨rfl, v2, hW2, st2⟩
            have hmv := st2.moved
            have hL2 := keep_wstep st2 hL0 (by omega) (fun e => by have := hsl _ e.symm; omega)
            have d3 : w2.cell? ⟨wr.heap.size, 3, none⟩ = some (.string s) := by rw [cell_of_row w2 _ 3 _ 49 (0, 0) hL2]; rfl
            have d4 : w2.cell? ⟨wr.heap.size, 4, none⟩ = some (.slice aor lr.length capr) := by rw [cell_of_row w2 _ 4 _ 49 (0, 0) hL2]; rfl
            have hU2 := own_wstep st2 hU0 (fun e => (hsep _ e).1 rfl) (by
              cases hx : u4.ownBlock with
              | none => exact .inl rfl
              | some q => exact .inr (hsep q hx).2)
            have V2 := View.of_own hU2 hab
            have z2 := st2.size
            have hB2 : Below w.heap.size w w2 := hB0.trans ⟨st2.os, st2.tape, st2.output, st2.size, fun q hq => st2.block q (by omega) (by omega) (fun e => by have := hsl _ e.symm; omega)⟩
            have hzB2 := hB2.size
            have hv2 := hW2.own.lt
            have hp2 := hW2.lt
            clear hL2 hL0 hU0 hW0
            have hR2 : View w2 (.slice aor lr.length capr) lr := hraw0.below hB2
            go_wp2_with (at_builtin; refine wpList_append_view rfl _ _ rfl w.heap.size u4 _ _ _ lr rfl hU2 rfl hR2 (by omega) (by omega) ?_; intro u3 w3 ho3 hst3)
            have hsv : v2.ownBlock = none ∨ v2.ownBlock ≠ u4.ownBlock := by
              cases hx : v2.ownBlock with
              | none => exact .inl rfl
              | some q =>
                right
                intro e
                have h1 := hul q e.symm
                rcases hmv with hmv | ⟨g', hg', hge⟩
                · rw [hx] at hmv
                  exact (hsep q e.symm).2 hmv
                · rw [hx] at hg'; cases hg'; omega
            have hW3 := hW2.step hst3 (fun e => (hsep _ e.symm).1 rfl) hsv
            have hB3 : Below w.heap.size w w3 := hB2.trans (hst3.below hzB2 (fun q hq => (hul q hq).1))
            have hm3 := hst3.moved
            go_wp2
            refine FIN.out w3 u3 v2 lr hlby (by omega) hW3 (by rw [List.length_append, bcells_append]; exact ho3) (fun q hq => ?_) hB3
            rcases hm3 with hm3 | ⟨g', hg', hge⟩
            · rw [hq] at hm3
              refine ⟨(hsep q hm3.symm).1, fun e => ?_⟩
              rcases hsv with hsv | hsv
              · rw [hsv] at e; cases e
              · exact hsv (by rw [← e, hm3])
            · rw [hq] at hg'; cases hg'
              refine ⟨by omega, fun e => ?_⟩
              have := hv2 q e.symm
              omega
          · have kb3 : (kind == 3) = false := by simpa using k3
            go_wp2
            exact FIN.out _ u4 vw [] AllBytes.nil (by simp) (by rw [List.append_nil]; exact hW.below (hb0 _)) (by rw [List.append_nil]; exact hU.alloc _) hsep (hbw.alloc hzw _)
    · have hle := hW.own.lt
      have HD := hidIt (done_any w.heap.size w.heap.size vw acc wr hW hab (by omega))
      have hVU := View.of_own hU hab
      have hzw := hbw.size
      obtain ⟨aou, capu, rfl⟩ := own_slice hU
      have cu := run_string hVU
      have hexit : ¬ (k : Int) < (ps.length : Int) ∨ ((k : Int) < (ps.length : Int) ∧ ¬ (k : Int) < 30) := by omega
      have cud : (convert 25 9 (.slice aou acc.length capu)).run Tryd.prog wr.drew = .ok (.string (strOfNums acc)) wr.drew := run_string (w := wr.drew) hVU
      clear HD hps
      rcases hexit with he | ⟨he, he2⟩
      · go_wp2
        go_region_with (first
          | (go_at_call 19; refine (done_any w.heap.size w.heap.size vw acc _ (by exact ⟨hW.at_, hW.own⟩) hab (by omega)).mono ?_; rintro e w3 ⟨b3', v3, rfl, o3⟩; have b3 : Below wr.heap.size wr w3 := ⟨b3'.os, b3'.tape, b3'.output, b3'.size, b3'.block⟩; have cs3 := run_string (View.of_own o3 hab); have cu3 := run_string (hVU.below b3); have hB3 : Below w.heap.size w w3 := hbw.trans (b3.mono hzw); clear o3 b3')
          | (go_at_call 20; refine (known_any _ (hT.below hB3)).mono ?_; rintro e w4 ⟨rfl, b4⟩))
        all_goals
          go_wp2
          go_ret
          exact ⟨rfl, hB3.trans (b4.mono hB3.size)⟩
      · go_wp2
        go_region_with (first
          | (go_at_call 19; refine (done_any w.heap.size w.heap.size vw acc _ (by exact ⟨hW.at_, hW.own⟩) hab (by omega)).mono ?_; rintro e w3 ⟨b3', v3, rfl, o3⟩; have b3 : Below wr.heap.size wr w3 := ⟨b3'.os, b3'.tape, b3'.output, b3'.size, b3'.block⟩; have cs3 := run_string (View.of_own o3 hab); have cu3 := run_string (hVU.below b3); have hB3 : Below w.heap.size w w3 := hbw.trans (b3.mono hzw); clear o3 b3')
          | (go_at_call 20; refine (known_any _ (hT.below hB3)).mono ?_; rintro e w4 ⟨rfl, b4⟩))
        all_goals
          go_wp2
          go_ret
          exact ⟨rfl, hB3.trans (b4.mono hB3.size)⟩
end Go.Proofs.YtnnoifofgbibmaaDoor
