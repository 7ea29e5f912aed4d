/- MutfReads, walked. -/
import Derived.Test.YtnnoifofgbibmaaDoorRfS
import Derived.Test.YtnnoifofgbibmaaDoorBk
import Derived.Test.YtnnoifofgbibmaaDoorOpQ
namespace Go.Proofs.YtnnoifofgbibmaaDoor
open Go.RowKit

theorem PartAt0.later {W W' : World} {g o : Nat} {p : PartD} (h : PartAt0 W g o p) (hb : Below W.heap.size W W') : PartAt0 W' g o p :=
  ⟨cell_later hb h.c0, cell_later hb h.c1, cell_later hb h.c2, cell_later hb h.c3, cell_later hb h.c4, h.raw.below hb⟩

theorem IsS.lt {pr : Nat} {w : World} {v : Value} {l : List Int} {a : Nat} {y : Int} (h : IsS pr w v l a y) : pr < w.heap.size := by
  rcases h with ⟨_, h⟩ | ⟨_, _, h⟩
  · exact h.lt
  · exact h.lt
theorem IsS.apart {pr : Nat} {w : World} {v : Value} {l m : List Int} {a : Nat} {y : Int} (h : IsS pr w v l a y) {g off : Nat} (hl : Lies w g off m) (hne : m ≠ []) : g ≠ pr := by
  rcases h with ⟨_, h⟩ | ⟨_, _, h⟩
  · exact h.apart hl hne
  · exact h.apart hl hne
theorem IsS.drew {pr q : Nat} {w : World} {v : Value} {l : List Int} {a : Nat} {y : Int} (h : IsS pr w v l a y) : IsS pr (w.drewN q) v l a y := by
  rcases h with ⟨e, h⟩ | ⟨e, t, h⟩
  · exact .inl ⟨e, ⟨h.blk, h.view, h.le⟩⟩
  · exact .inr ⟨e, t, ⟨h.blk, h.view, h.le⟩⟩
theorem IsR.drew {pr q : Nat} {w : World} {v : Value} {l : List Int} {a : Nat} {y : Int} (h : IsR pr w v l a y) : IsR pr (w.drewN q) v l a y := ⟨h.blk, h.view, h.le⟩

/-- Both readers, side by side, at the same place with the same refusal. -/
structure Both (pr ps : Nat) (w : World) (v vb : Value) (l : List Int) (a : Nat) (y : Int) : Prop where
  r : IsR pr w v l a y
  s : IsS ps w vb l a y
theorem IsS.keep {pr ps : Nat} {w w' : World} {v vb : Value} {l l2 : List Int} {a a2 : Nat} {y y2 : Int} (h : IsS ps w vb l a y) (hr : IsR pr w v l2 a2 y2) (ho : Only pr w w') (hne : ps ≠ pr) : IsS ps w' vb l a y := by
  have key : ∀ {t f y z}, IsB ps w vb l t f y z → IsB ps w' vb l t f y z := fun {t f y z} h =>
    ⟨(ho.block ps h.lt hne).trans h.blk, h.view.only ho (fun _ _ hl hn => hr.apart2 hl hn), h.le⟩
  rcases h with ⟨e, h⟩ | ⟨e, t, h⟩
  · exact .inl ⟨e, key h⟩
  · exact .inr ⟨e, t, key h⟩
theorem IsR.keep {pr ps : Nat} {w w' : World} {v vb : Value} {l l2 : List Int} {a a2 : Nat} {y y2 : Int} (h : IsR pr w v l a y) (hs : IsS ps w vb l2 a2 y2) (ho : Only ps w w') (hne : ps ≠ pr) : IsR pr w' v l a y :=
  ⟨(ho.block pr h.lt (fun e => hne e.symm)).trans h.blk, h.view.only ho (fun _ _ hl hn => hs.apart hl hn), h.le⟩
theorem Both.below {pr ps : Nat} {w w' : World} {v vb : Value} {l : List Int} {a : Nat} {y : Int} (h : Both pr ps w v vb l a y) (hb : Below w.heap.size w w') : Both pr ps w' v vb l a y := ⟨h.r.below hb, h.s.below hb⟩
theorem Both.drew {pr ps q : Nat} {w : World} {v vb : Value} {l : List Int} {a : Nat} {y : Int} (h : Both pr ps w v vb l a y) : Both pr ps (w.drewN q) v vb l a y := ⟨h.r.drew, h.s.drew⟩

/-- What is left. -/
def leftZ (l : List Int) (a : Nat) (y : Int) : Int := if y = 0 then (l.length : Int) - a else 0
theorem left_both (pr : Nat) (v : Value) (l : List Int) (a : Nat) (y : Int) (w : World) (h : IsR pr w v l a y) :
    Calls Tryd.prog 33 #[.pointer (some ⟨pr, 0, none⟩)] w fun e w' => e = .returned (.int .i64 (leftZ l a y)) ∧ ∃ q, w' = w.drewN q := by
  unfold leftZ
  by_cases hy : y = 0
  · subst hy
    rw [if_pos rfl]
    exact left_any pr v l a w h
  · rw [if_neg hy]
    exact left_zero pr v l a y w h hy
theorem refleft_both (pr : Nat) (v : Value) (l : List Int) (a : Nat) (y : Int) (w : World) (h : IsS pr w v l a y) :
    Calls Tryd.prog 34 #[.pointer (some ⟨pr, 0, none⟩)] w fun e w' => e = .returned (.int .i64 (leftZ l a y)) ∧ ∃ q, w' = w.drewN q := refleft_any pr v l a y w h

set_option maxHeartbeats 8000000 in
set_option maxRecDepth 20000 in
theorem reads_any (vb vp : Value) (l : List Int) (parts : List PartD) (w : World) (hT : Tabs w) (hv : View w vb l) (hp : Parts0 w vp parts) (hlen : l.length ≤ 140737488351232) :
    Calls Tryd.prog 7 #[vb, vp] w fun e w' => e = .returned (.bool true) ∧ Below w.heap.size w w' := by
  obtain ⟨aop, capp, rfl, hcp, hmp, hps⟩ := hp
  unfold maxLen at hmp
  have hby : AllBytes l := by obtain ⟨_, _, _, _, _, h, _⟩ := hv; exact h
  obtain ⟨ao, cap, rfl, hc, hm, -, -⟩ := id hv
  unfold maxLen at hm
  have HRo := hidIt (roomy_any _ l w hv (by omega))
  go_enter Tryd.func7, Tryd.ntmps7
  go_wp2_with fail
  refine HRo.out.mono ?_
  rintro e w1 ⟨b1, rfl, L1⟩
  clear HRo
  have hz1 := b1.size
  have hg1 : w.heap.size < w1.heap.size := World.block_lt_of_cell? w1 ⟨w.heap.size, 0 + l.length, none⟩ (L1 l.length 165 (roomy_tail (by omega) (by omega)))
  have HNR := hidIt (newR_any _ l w1 (view_front hby (by unfold maxLen; omega) L1) (by omega))
  go_wp2_with fail
  refine HNR.out.mono ?_
  rintro e w2 ⟨b2, pr, v2, rfl, hpr, R2, -⟩
  clear HNR
  have hz2 := b2.size
  have hprl := R2.lt
  go_wp2_with fail
  have b12 : Below w1.heap.size w1 (w2.alloc (.cells #[.slice ao l.length cap, .int .i64 0, .bool false, .int .i64 0, .int .i64 0] 57)) := b2.alloc hz2 _
  have R3 : IsR pr (w2.alloc (.cells #[.slice ao l.length cap, .int .i64 0, .bool false, .int .i64 0, .int .i64 0] 57)) v2 l 0 0 := R2.below ((Below.refl _ _).alloc (Nat.le_refl _) _)
  have hvW : View (w2.alloc (.cells #[.slice ao l.length cap, .int .i64 0, .bool false, .int .i64 0, .int .i64 0] 57)) (.slice ao l.length cap) l := hv.below (b1.trans (b12.mono hz1))
  have S3 : IsS w2.heap.size (w2.alloc (.cells #[.slice ao l.length cap, .int .i64 0, .bool false, .int .i64 0, .int .i64 0] 57)) (.slice ao l.length cap) l 0 0 := .inl ⟨rfl, ⟨heap_alloc_new _ _, hvW, Nat.zero_le _⟩⟩
  have hne : w2.heap.size ≠ pr := by omega
  have hz3 : (w2.alloc (.cells #[.slice ao l.length cap, .int .i64 0, .bool false, .int .i64 0, .int .i64 0] 57)).heap.size = w2.heap.size + 1 := by simp
  generalize w2.alloc (.cells #[.slice ao l.length cap, .int .i64 0, .bool false, .int .i64 0, .int .i64 0] 57) = w3 at *
  have hps1 := hz2
  clear hvW R2 b2
  generalize w2.heap.size = ps at *
  go_loopw [8] (fun i wr => ∃ (k a : Nat) (y : Int), i = .int .i64 (k : Int) ∧ k ≤ parts.length ∧ k ≤ 30 ∧ Both pr ps wr v2 (.slice ao l.length cap) l a y ∧ Below w1.heap.size w1 wr) (fun i _ => 30 - (intOf i).toNat)
  case atStart => exact ⟨0, 0, 0, rfl, Nat.zero_le _, Nat.zero_le _, ⟨R3, S3⟩, b12⟩
  case round =>
    clear R3 S3 b12
    obtain ⟨k, a, y, rfl, hk, hk30, hBo, hbw⟩ := hrel
    have hzw := hbw.size
    have hbw0 : Below w.heap.size w wr := b1.trans (hbw.mono hz1)
    by_cases hlt : k < parts.length ∧ k < 30
    · obtain ⟨hlt, hlt30⟩ := hlt
      obtain ⟨g, off, rfl, hpa⟩ : ∃ g off, aop = some ⟨g, off, none⟩ ∧ ∀ i p, parts[i]? = some p → PartAt0 w g (off + i * 5) p := by
        rcases hps with e | h
        · rw [e] at hlt; simp at hlt
        · exact h
      have hpt := (hpa k parts[k] (by simp [hlt]))
      generalize parts[k] = p at *
      have hpw := hpt.later hbw0
      obtain ⟨kind, bytes, n, s, vr, lr⟩ := p
      obtain ⟨c0, c1, c2, c3, c4, hraw⟩ := hpw
      simp only at c0 c1 c2 c3 c4 hraw
      obtain ⟨aor, capr, rfl, -⟩ := id hraw
      clear hpa hps hpt
      have hlt' : (k : Int) < (parts.length : Int) := by omega
      have hlt3' : (k : Int) < 30 := by omega
      have FIN : Hid (∀ (W3 : World) (a' : Nat) (y' : Int), Both pr ps W3 v2 (.slice ao l.length cap) l a' y' → Below w1.heap.size w1 W3 →
          (∃ (k' a' : Nat) (y' : Int), Value.int .i64 ((k : Int) + 1) = .int .i64 (k' : Int) ∧ k' ≤ parts.length ∧ k' ≤ 30 ∧ Both pr ps W3 v2 (.slice ao l.length cap) l a' y' ∧ Below w1.heap.size w1 W3) ∧ 30 - (intOf (.int .i64 ((k : Int) + 1))).toNat < 30 - (intOf (.int .i64 (k : Int))).toNat) := by
        intro W3 a' y' h1 h2
        exact ⟨⟨k + 1, a', y', by go_num, by omega, by omega, h1, h2⟩, by simp [intOf]; omega⟩
      have hB0 : Both pr ps (wr.alloc (.cells #[.int .i64 kind, .int .i64 bytes, .int .i64 n, .string s, .slice aor lr.length capr] 49)) v2 (.slice ao l.length cap) l a y := hBo.below ((Below.refl _ _).alloc (Nat.le_refl _) _)
      have hb0 : Below w1.heap.size w1 (wr.alloc (.cells #[.int .i64 kind, .int .i64 bytes, .int .i64 n, .string s, .slice aor lr.length capr] 49)) := hbw.alloc hzw _
      have hL0 := heap_alloc_new wr (.cells #[.int .i64 kind, .int .i64 bytes, .int .i64 n, .string s, .slice aor lr.length capr] 49)
      have hw0 : (wr.alloc (.cells #[.int .i64 kind, .int .i64 bytes, .int .i64 n, .string s, .slice aor lr.length capr] 49)).heap.size = wr.heap.size + 1 := by simp
      by_cases k4 : kind = 4
      · subst k4
        go_wp2_with fail
        generalize wr.alloc (.cells #[.int .i64 4, .int .i64 bytes, .int .i64 n, .string s, .slice aor lr.length capr] 49) = W0 at *
        refine (fail_any pr v2 l a y 23 W0 hB0.r).mono ?_
        rintro e w3' ⟨rfl, r3, o3⟩
        have s3 := hB0.s.keep hB0.r o3 hne
        go_wp2_with fail
        refine (reffail_any ps _ l a y 23 w3' s3 (by decide)).mono ?_
        rintro e w4 ⟨rfl, s4, o4⟩
        have B4 : Both pr ps w4 v2 (.slice ao l.length cap) l a (if y = 0 then 23 else y) := ⟨r3.keep s3 o4 hne, s4⟩
        have hb4 : Below w1.heap.size w1 w4 := (hb0.trans (o3.below (by omega) hpr)).trans (o4.below (by have := o3.size; omega) hps1)
        generalize (if y = 0 then (23 : Int) else y) = y4 at *
        obtain ⟨a4, rfl⟩ : ∃ a4, a4 = a := ⟨_, rfl⟩

        go_wp2_with fail
        refine (end_any pr v2 l a4 y4 _ B4.r).mono ?_
        rintro e w5 ⟨rfl, q5, rfl⟩
        go_wp2_with fail
        refine (refend_any ps (.slice ao l.length cap) l a4 y4 _ B4.s.drew).mono ?_
        rintro e w6 ⟨rfl, q6, rfl⟩
        go_wp2_with fail
        refine (left_both pr v2 l a4 y4 _ B4.r.drew).mono ?_
        rintro e w7 ⟨rfl, q7, rfl⟩
        go_wp2_with fail
        refine (refleft_both ps (.slice ao l.length cap) l a4 y4 _ B4.s.drew).mono ?_
        rintro e w8 ⟨rfl, q8, rfl⟩
        go_wp2
        exact FIN.out _ a4 y4 B4.drew (hb4.trans ⟨rfl, rfl, rfl, Nat.le_refl _, fun _ _ => rfl⟩)
      · have kb4 : (kind == 4) = false := by simpa using k4
        by_cases k2 : kind = 2
        · subst k2
          have HT2 : Hid (∀ W, IsR pr W v2 l a y → Calls Tryd.prog 15 #[.pointer (some ⟨pr, 0, none⟩)] W fun e w' => e = .returned (.string (rtext l a y).1) ∧ IsR pr w' v2 l (rtext l a y).2.1 (rtext l a y).2.2 ∧ Only pr W w') := fun W h => rtext_any pr v2 l a y W h
          have HS2 : Hid (∀ W, IsS ps W (.slice ao l.length cap) l a y → Calls Tryd.prog 29 #[.pointer (some ⟨ps, 0, none⟩)] W fun e w' => e = .returned (.string (rtext l a y).1) ∧ IsS ps w' (.slice ao l.length cap) l (rtext l a y).2.1 (rtext l a y).2.2 ∧ Only ps W w') := fun W h => refrtext_any ps _ l a y W h (by omega)
          generalize rtext l a y = T at *
          obtain ⟨tx, a4, y4⟩ := T
          simp only at HT2 HS2
          go_wp2_with fail
          generalize wr.alloc (.cells #[.int .i64 2, .int .i64 bytes, .int .i64 n, .string s, .slice aor lr.length capr] 49) = W0 at *
          refine (HT2.out W0 hB0.r).mono ?_
          rintro e w3' ⟨rfl, r3, o3⟩
          have s3 := hB0.s.keep hB0.r o3 hne
          go_wp2_with fail
          refine (HS2.out w3' s3).mono ?_
          rintro e w4 ⟨rfl, s4, o4⟩
          have B4 : Both pr ps w4 v2 (.slice ao l.length cap) l a4 y4 := ⟨r3.keep s3 o4 hne, s4⟩
          have hb4 : Below w1.heap.size w1 w4 := (hb0.trans (o3.below (by omega) hpr)).trans (o4.below (by have := o3.size; omega) hps1)

          go_wp2_with fail
          refine (end_any pr v2 l a4 y4 _ B4.r).mono ?_
          rintro e w5 ⟨rfl, q5, rfl⟩
          go_wp2_with fail
          refine (refend_any ps (.slice ao l.length cap) l a4 y4 _ B4.s.drew).mono ?_
          rintro e w6 ⟨rfl, q6, rfl⟩
          go_wp2_with fail
          refine (left_both pr v2 l a4 y4 _ B4.r.drew).mono ?_
          rintro e w7 ⟨rfl, q7, rfl⟩
          go_wp2_with fail
          refine (refleft_both ps (.slice ao l.length cap) l a4 y4 _ B4.s.drew).mono ?_
          rintro e w8 ⟨rfl, q8, rfl⟩
          go_wp2
          exact FIN.out _ a4 y4 B4.drew (hb4.trans ⟨rfl, rfl, rfl, Nat.le_refl _, fun _ _ => rfl⟩)
        · have kb2 : (kind == 2) = false := by simpa using k2
          by_cases k1 : kind = 1
          · subst k1
            have HT1 : Hid (∀ W, IsR pr W v2 l a y → Calls Tryd.prog 27 #[.pointer (some ⟨pr, 0, none⟩), .int .i64 bytes] W fun e w' => e = .returned (.int .i64 (IntKind.i64.wrap (beVal (tk l a y (min (max bytes 1) 8)).1))) ∧ IsR pr w' v2 l (tk l a y (min (max bytes 1) 8)).2.1 (tk l a y (min (max bytes 1) 8)).2.2 ∧ Only pr W w') := fun W h => rnum_any pr v2 l a y bytes W h
            have HS1 : Hid (∀ W, IsS ps W (.slice ao l.length cap) l a y → Calls Tryd.prog 28 #[.pointer (some ⟨ps, 0, none⟩), .int .i64 bytes] W fun e w' => e = .returned (.int .i64 (IntKind.i64.wrap (beVal (tk l a y (min (max bytes 1) 8)).1))) ∧ IsS ps w' (.slice ao l.length cap) l (tk l a y (min (max bytes 1) 8)).2.1 (tk l a y (min (max bytes 1) 8)).2.2 ∧ Only ps W w') := fun W h => refrnum_any ps _ l a y bytes W h (by omega)
            generalize tk l a y (min (max bytes 1) 8) = T at *
            obtain ⟨bs, a4, y4⟩ := T
            simp only at HT1 HS1
            generalize IntKind.i64.wrap (beVal bs) = V at *
            go_wp2_with fail
            generalize wr.alloc (.cells #[.int .i64 1, .int .i64 bytes, .int .i64 n, .string s, .slice aor lr.length capr] 49) = W0 at *
            have d0 : W0.cell? ⟨wr.heap.size, 1, none⟩ = some (.int .i64 bytes) := by rw [cell_of_row W0 _ 1 _ 49 (0, 0) hL0]; rfl
            have hn1 : wr.heap.size ≠ pr := by have := hBo.r.lt; omega
            have hn2 : wr.heap.size ≠ ps := by have := hBo.s.lt; omega
            clear c0 c1 c2 c3 c4
            go_region_with (first
              | (go_at_call 27; refine (HT1.out _ (by exact ⟨hB0.r.blk, hB0.r.view, hB0.r.le⟩)).mono ?_; rintro e w3' ⟨rfl, r3, o3'⟩; have o3 : Only pr W0 w3' := ⟨o3'.os, o3'.tape, o3'.output, o3'.size, o3'.block⟩; have s3 := hB0.s.keep hB0.r o3 hne; have d3 : w3'.cell? ⟨wr.heap.size, 1, none⟩ = some (.int .i64 bytes) := by (rw [World.cell?_of_block (a := ⟨wr.heap.size, 1, none⟩) (o3.block wr.heap.size (by omega) hn1)]; exact d0))
              | (go_at_call 28; refine (HS1.out _ s3).mono ?_; rintro e w4 ⟨rfl, s4, o4⟩))
            all_goals
              have B4 : Both pr ps w4 v2 (.slice ao l.length cap) l a4 y4 := ⟨r3.keep s3 o4 hne, s4⟩
              have hb4 : Below w1.heap.size w1 w4 := (hb0.trans (o3.below (by omega) hpr)).trans (o4.below (by have := o3.size; omega) hps1)

              go_wp2_with fail
              refine (end_any pr v2 l a4 y4 _ B4.r).mono ?_
              rintro e w5 ⟨rfl, q5, rfl⟩
              go_wp2_with fail
              refine (refend_any ps (.slice ao l.length cap) l a4 y4 _ B4.s.drew).mono ?_
              rintro e w6 ⟨rfl, q6, rfl⟩
              go_wp2_with fail
              refine (left_both pr v2 l a4 y4 _ B4.r.drew).mono ?_
              rintro e w7 ⟨rfl, q7, rfl⟩
              go_wp2_with fail
              refine (refleft_both ps (.slice ao l.length cap) l a4 y4 _ B4.s.drew).mono ?_
              rintro e w8 ⟨rfl, q8, rfl⟩
              go_wp2
              exact FIN.out _ a4 y4 B4.drew (hb4.trans ⟨rfl, rfl, rfl, Nat.le_refl _, fun _ _ => rfl⟩)
          · have kb1 : (kind == 1) = false := by simpa using k1
            by_cases k3 : kind = 3
            · subst k3
              have HT3 : Hid (∀ W, IsR pr W v2 l a y → Calls Tryd.prog 16 #[.pointer (some ⟨pr, 0, none⟩), .int .i64 bytes] W fun e w' => ∃ v', e = .returned v' ∧ w'.ownsRow W.heap.size 5 1 v' (tk l a y bytes).1.length (bcells (tk l a y bytes).1) ∧ IsR pr w' v2 l (tk l a y bytes).2.1 (tk l a y bytes).2.2 ∧ Only pr W w') := fun W h => rbytes_any pr v2 l a y bytes W h (by omega)
              have HS3 : Hid (∀ W, IsS ps W (.slice ao l.length cap) l a y → Calls Tryd.prog 30 #[.pointer (some ⟨ps, 0, none⟩), .int .i64 bytes] W fun e w' => ∃ u, e = .returned u ∧ View w' u (tk l a y bytes).1 ∧ IsS ps w' (.slice ao l.length cap) l (tk l a y bytes).2.1 (tk l a y bytes).2.2 ∧ Only ps W w') := fun W h => refbytes_any ps _ l a y bytes W h (by omega)
              have htb := tk_bytes l a y bytes hby
              generalize tk l a y bytes = T at *
              obtain ⟨bs, a4, y4⟩ := T
              simp only at HT3 HS3 htb
              have HTB := hidIt htb
              clear htb
              go_wp2_with fail
              generalize wr.alloc (.cells #[.int .i64 3, .int .i64 bytes, .int .i64 n, .string s, .slice aor lr.length capr] 49) = W0 at *
              have d0 : W0.cell? ⟨wr.heap.size, 1, none⟩ = some (.int .i64 bytes) := by rw [cell_of_row W0 _ 1 _ 49 (0, 0) hL0]; rfl
              have hn1 : wr.heap.size ≠ pr := by have := hBo.r.lt; omega
              have hn2 : wr.heap.size ≠ ps := by have := hBo.s.lt; omega
              clear c0 c1 c2 c3 c4
              go_region_with (first
                | (go_at_call 16; refine (HT3.out _ (by exact ⟨hB0.r.blk, hB0.r.view, hB0.r.le⟩)).mono ?_; rintro e w3' ⟨v3, rfl, ow3, r3, o3'⟩; have V3 := View.of_own ow3 HTB.out; obtain ⟨ao3, cap3, rfl, -⟩ := id V3; clear ow3; have cs3 := run_string V3; have o3 : Only pr W0 w3' := ⟨o3'.os, o3'.tape, o3'.output, o3'.size, o3'.block⟩; have s3 := hB0.s.keep hB0.r o3 hne; have d3 : w3'.cell? ⟨wr.heap.size, 1, none⟩ = some (.int .i64 bytes) := by (rw [World.cell?_of_block (a := ⟨wr.heap.size, 1, none⟩) (o3.block wr.heap.size (by omega) hn1)]; exact d0))
                | (go_at_call 30; refine (HS3.out _ s3).mono ?_; rintro e w4 ⟨u4', rfl, V4, s4, o4⟩; obtain ⟨ao4, cap4, rfl, -⟩ := id V4; have cs4 := run_string V4; have cs5 := run_string (V3.only o4 (fun _ _ hl hn => s3.apart hl hn))))
              all_goals
                have B4 : Both pr ps w4 v2 (.slice ao l.length cap) l a4 y4 := ⟨r3.keep s3 o4 hne, s4⟩
                have hb4 : Below w1.heap.size w1 w4 := (hb0.trans (o3.below (by omega) hpr)).trans (o4.below (by have := o3.size; omega) hps1)

                go_wp2_with fail
                refine (end_any pr v2 l a4 y4 _ B4.r).mono ?_
                rintro e w5 ⟨rfl, q5, rfl⟩
                go_wp2_with fail
                refine (refend_any ps (.slice ao l.length cap) l a4 y4 _ B4.s.drew).mono ?_
                rintro e w6 ⟨rfl, q6, rfl⟩
                go_wp2_with fail
                refine (left_both pr v2 l a4 y4 _ B4.r.drew).mono ?_
                rintro e w7 ⟨rfl, q7, rfl⟩
                go_wp2_with fail
                refine (refleft_both ps (.slice ao l.length cap) l a4 y4 _ B4.s.drew).mono ?_
                rintro e w8 ⟨rfl, q8, rfl⟩
                go_wp2
                exact FIN.out _ a4 y4 B4.drew (hb4.trans ⟨rfl, rfl, rfl, Nat.le_refl _, fun _ _ => rfl⟩)
            · have kb3 : (kind == 3) = false := by simpa using k3
              go_wp2_with fail
              generalize wr.alloc (.cells #[.int .i64 kind, .int .i64 bytes, .int .i64 n, .string s, .slice aor lr.length capr] 49) = W0 at *
              have B4 := hB0
              have hb4 := hb0
              obtain ⟨a4, rfl⟩ : ∃ a4, a4 = a := ⟨_, rfl⟩
              obtain ⟨y4, rfl⟩ : ∃ y4, y4 = y := ⟨_, rfl⟩

              go_wp2_with fail
              refine (end_any pr v2 l a4 y4 _ B4.r).mono ?_
              rintro e w5 ⟨rfl, q5, rfl⟩
              go_wp2_with fail
              refine (refend_any ps (.slice ao l.length cap) l a4 y4 _ B4.s.drew).mono ?_
              rintro e w6 ⟨rfl, q6, rfl⟩
              go_wp2_with fail
              refine (left_both pr v2 l a4 y4 _ B4.r.drew).mono ?_
              rintro e w7 ⟨rfl, q7, rfl⟩
              go_wp2_with fail
              refine (refleft_both ps (.slice ao l.length cap) l a4 y4 _ B4.s.drew).mono ?_
              rintro e w8 ⟨rfl, q8, rfl⟩
              go_wp2
              exact FIN.out _ a4 y4 B4.drew (hb4.trans ⟨rfl, rfl, rfl, Nat.le_refl _, fun _ _ => rfl⟩)
    · have L4 : Lies wr w.heap.size 0 (roomy l) := fun j x hj => cell_later hbw (L1 j x hj)
      have HI := hidIt (intact_any w.heap.size _ l wr L4 (hv.below hbw0) (by omega))
      have hT4 : ∀ q, Tabs (wr.drewN q) := fun q => hT.below (hbw0.trans ⟨rfl, rfl, rfl, Nat.le_refl _, fun _ _ => rfl⟩)
      have hexit : ¬ (k : Int) < (parts.length : Int) ∨ ((k : Int) < (parts.length : Int) ∧ ¬ (k : Int) < 30) := by omega
      clear L4 hps
      rcases hexit with he | ⟨he, he2⟩
      · go_wp2_with fail
        refine HI.out.mono ?_
        rintro e w5 ⟨rfl, q5, rfl⟩
        go_wp2_with fail
        refine (known_any _ (hT4 q5)).mono ?_
        rintro e w6 ⟨rfl, b6⟩
        go_wp2
        go_ret
        exact ⟨rfl, hbw0.trans ⟨b6.os, b6.tape, b6.output, b6.size, fun k hk => b6.block k (Nat.lt_of_lt_of_le hk hbw0.size)⟩⟩
      · go_wp2_with fail
        refine HI.out.mono ?_
        rintro e w5 ⟨rfl, q5, rfl⟩
        go_wp2_with fail
        refine (known_any _ (hT4 q5)).mono ?_
        rintro e w6 ⟨rfl, b6⟩
        go_wp2
        go_ret
        exact ⟨rfl, hbw0.trans ⟨b6.os, b6.tape, b6.output, b6.size, fun k hk => b6.block k (Nat.lt_of_lt_of_le hk hbw0.size)⟩⟩
end Go.Proofs.YtnnoifofgbibmaaDoor
