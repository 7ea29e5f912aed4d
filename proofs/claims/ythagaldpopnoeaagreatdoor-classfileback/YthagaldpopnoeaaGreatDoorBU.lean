/- Back: walked. -/
import Derived.Test.YthagaldpopnoeaaGreatDoorYN
import Derived.Test.YthagaldpopnoeaaGreatDoorYO
import Derived.Deep.CutRange
namespace Go.Proofs.YthagaldpopnoeaaGreatDoor
open Go.RowKit D

theorem View.cut {w : World} {ao : Option Addr} {c n : Nat} {l : List Int} (h : View w (.slice ao l.length c) l) (hn : n ≤ l.length) : View w (.slice ao n c) (l.take n) := by
  obtain ⟨ao', c', e, hc, hm, hb, hl⟩ := h
  cases e
  refine ⟨ao, c, by rw [List.length_take, Nat.min_eq_left hn], by rw [List.length_take]; omega, hm, fun x hx => hb x (List.mem_of_mem_take hx), ?_⟩
  rcases hl with rfl | ⟨g, off, e, hl⟩
  · exact .inl (by simp)
  · refine .inr ⟨g, off, e, fun i x hi => hl i x ?_⟩
    rw [List.getElem?_take] at hi
    split at hi
    · exact hi
    · cases hi
theorem ClassV.oks {w : World} {v : Value} {k : KD} (h : ClassV w v k) : ∀ c ∈ k.pool, c.Ok := by
  obtain ⟨o1, c1, o2, c2, o3, c3, e, s1, s2, ⟨_, _, rows, _, hr⟩, _, _⟩ := h
  intro c hc
  obtain ⟨i, hi, rfl⟩ := List.mem_iff_getElem.1 hc
  exact (hr i _ (List.getElem?_eq_getElem hi)).2
theorem zero_V (w : World) : ClassV w zeroK ⟨⟨#[]⟩, ⟨#[]⟩, [], [], []⟩ :=
  ⟨none, 0, none, 0, none, 0, rfl, by decide, by decide, LAt.nil _ _ _ _ _ (Nat.zero_le _), LAt.nil _ _ _ _ _ (Nat.zero_le _), LAt.nil _ _ _ _ _ (Nat.zero_le _)⟩
theorem classO_pos (k : KD) : 0 < (classO k).length := by unfold classO; simp
/-- What Decode answers for a class's own bytes. -/
theorem dec_own {k : KD} (h : rightZ k = 0) (hok : ∀ c ∈ k.pool, c.Ok) {e : Ending} {w' : World} (hd : DecA (classO k) e w') : ∃ u, e = .returned (.tuple #[u, .int .i64 0, .int .i64 0]) ∧ ClassQ w' u k := by
  obtain ⟨h1, h2⟩ := read_own k h hok
  unfold DecA at hd
  rw [h2, h1] at hd
  rcases hd with ⟨why, at_, hy, hq, _⟩ | ⟨u, e, hQ, _, _⟩
  · rcases hq with hq | hq
    · exact absurd hq.symm hy
    · simp only at hq; rw [h] at hq; exact absurd hq.symm hy
  · exact ⟨u, e, hQ⟩
theorem dec_cut {k : KD} (h : rightZ k = 0) (hok : ∀ c ∈ k.pool, c.Ok) (hb : AllBytes (classO k)) {n : Nat} (hn : n < (classO k).length) {e : Ending} {w' : World} (hd : DecA ((classO k).take n) e w') : ∃ why at_, why ≠ 0 ∧ e = .returned (.tuple #[zeroK, .int .i64 why, .int .i64 at_]) := by
  rcases hd with ⟨why, at_, hy, _, e⟩ | ⟨u, e, hQ, hr, hE⟩
  · exact ⟨why, at_, hy, e⟩
  · obtain ⟨_, _, _, _, _, _, _, hq, _⟩ := hQ
    exact absurd hE (read_cut k h hok hb n hn hr hq)
/-- What Decode answers for any bytes: nothing, or a class whose bytes they are. -/
theorem dec_any {b : List Int} (hb : AllBytes b) {e : Ending} {w' : World} (hd : DecA b e w') : (∃ why at_, why ≠ 0 ∧ e = .returned (.tuple #[zeroK, .int .i64 why, .int .i64 at_])) ∨ ∃ u kk, e = .returned (.tuple #[u, .int .i64 0, .int .i64 0]) ∧ ClassQ w' u kk ∧ rightZ kk = 0 ∧ classO kk = b := by
  rcases hd with ⟨why, at_, hy, _, e⟩ | ⟨u, e, hQ, hr, hE⟩
  · exact .inl ⟨why, at_, hy, e⟩
  · exact .inr ⟨u, _, e, hQ, hr, read_back hb hE⟩

theorem enc_form {k : KD} (hb : AllBytes (classO k)) {B : Nat} {e : Ending} {w' : World} (h : EncA (rightZ k) (classO k) B e w') : ∃ ao n c err, e = .returned (.tuple #[.slice ao n c, .int .i64 err]) ∧ (err ≠ 0 ∨ (err = 0 ∧ rightZ k = 0 ∧ n = (classO k).length ∧ (classO k).length ≤ 32768 ∧ View w' (.slice ao n c) (classO k))) := by
  rcases h with ⟨hz, rfl⟩ | ⟨hz, hl, rfl⟩ | ⟨hz, hl, v, rfl, ho⟩
  · exact ⟨_, _, _, _, rfl, .inl hz⟩
  · exact ⟨_, _, _, _, rfl, .inl (by decide)⟩
  · obtain ⟨ao, c, rfl⟩ := own_slice ho
    exact ⟨_, _, _, _, rfl, .inr ⟨rfl, hz, rfl, hl, View.of_own ho hb⟩⟩
set_option maxRecDepth 8000 in
set_option maxHeartbeats 8000000 in
theorem back_any (k : KD) (v : Value) (b : List Int) (vb : Value) (cut : Int) (w : World) (hT : Tabs w) (h2 : 2 ≤ w.heap.size) (hv : ClassV w v k) (hb : View w vb b) :
    Calls Tryz.prog 6 #[v, vb, .int .i64 cut] w fun e w' => e = .returned (.bool true) ∧ Below w.heap.size w w' := by
  have hok := hv.oks
  have hby := class_bytes k hv.bytes
  have hbb : AllBytes b := by obtain ⟨_, _, _, _, _, h, _⟩ := hb; exact h
  obtain ⟨ob, cb, rfl, -⟩ := id hb
  have gK := fun W (h : Below w.heap.size w W) => D.hidIt (known_any W (hT.below h) (Nat.le_trans h2 h.size))
  have gE := fun W (h : Below w.heap.size w W) => D.hidIt (encode_class k v W (hv.below h) (hT.below h) (Nat.le_trans h2 h.size))
  have gE2 := fun W u kk (h : Below w.heap.size w W) (hq : ClassQ W u kk) => D.hidIt (encode_class kk u W hq.toV (hT.below h) (Nat.le_trans h2 h.size))
  have HV := D.hidIt hv
  obtain ⟨o1, c1, o2, c2, o3, c3, rfl, -⟩ := id hv
  have HB := D.hidIt hb
  have HOK := D.hidIt hok
  have HBY := D.hidIt hby
  have HBB := D.hidIt hbb
  have hpos := classO_pos k
  have HPOS := D.hidIt hpos
  clear hok hby hbb hv hb hT hpos
  have B0 := D.hidIt (balloc w (.cells #[.string k.nm, .string k.sup, .slice o1 k.pool.length c1, .slice o2 k.fs.length c2, .slice o3 k.ms.length c3] 33))
  have X0 := D.hidIt (heap_alloc_new w (.cells #[.string k.nm, .string k.sup, .slice o1 k.pool.length c1, .slice o2 k.fs.length c2, .slice o3 k.ms.length c3] 33))
  go_enter Tryz.func6, Tryz.ntmps6
  go_wp2_with fail
  refine (gE _ B0.out).out.mono ?_
  rintro e w1 ⟨b1, hE⟩
  have B1 := D.hidIt (next B0.out b1)
  have X1 := D.hidIt ((b1.block _ (by simp)).trans X0.out)
  obtain ⟨ao, n, c, err, rfl, hE2⟩ := enc_form HBY.out hE
  have HE := D.hidIt hE2
  clear b1 B0 X0 hE hE2 gE
  go_upto_if 26 with fail
  go_cut [9, 10, 11, 12, 13, 14] from 27 to 54 (fun _ _ _ _ _ _ wx => Below w.heap.size w wx)
  case first =>
    rcases HE.out with hne | ⟨rfl, hR, rfl, hl, hx⟩
    · have hb : (err == 0) = false := by simpa using hne
      go_wp2
      go_meet
      exact B1.out
    · have HR := D.hidIt hR
      have HX := D.hidIt hx
      have HL := D.hidIt hl
      have gD1 := D.hidIt (decode_class _ _ w1 hx hl)
      have gS := fun W u (h : Below w.heap.size w W) (hq : ClassQ W u k) => D.hidIt (same_class k _ u W (HV.out.below h) hq.toV)
      have gI := fun W => D.hidIt (within_any cut ((classO k).length - 1) (by omega) W)
      have gD2 := fun W (m : Nat) (h : View W (.slice ao m c) ((classO k).take m)) => D.hidIt (decode_class (.slice ao m c) ((classO k).take m) W h (by rw [List.length_take]; omega))
      have hpos := HPOS.out
      generalize hn : (classO k).length = n at *
      have HN := D.hidIt hn
      rw [show ((n - 1 : Nat) : Int) = (n : Int) - 1 by omega] at gI
      have hl1 : (n : Int) ≤ 32768 := by omega
      have hl2 : 1 ≤ (n : Int) := by omega
      clear hR hx hl HE hn
      go_wp2_with fail
      refine gD1.out.mono ?_
      rintro e w2 ⟨b2, hD⟩
      obtain ⟨u, rfl, hQ⟩ := dec_own HR.out HOK.out hD
      obtain ⟨pv, fv, mv, rfl, _, _, q1, _, q2, q3⟩ := id hQ
      obtain ⟨op, cp, rfl⟩ := slice_of_own q1
      obtain ⟨of, cf, rfl⟩ := q2.slice
      obtain ⟨om, cm, rfl⟩ := q3.slice
      have B2 := D.hidIt (next B1.out b2)
      have X2 := D.hidIt ((b2.block _ (Array.getElem?_eq_some_iff.1 X1.out).1).trans X1.out)
      have V2 := D.hidIt (HX.out.below b2)
      have b3 := balloc w2 (.cells #[.string k.nm, .string k.sup, .slice op k.pool.length cp, .slice of k.fs.length cf, .slice om k.ms.length cm] 33)
      have B3 := D.hidIt (next B2.out b3)
      have X3 := D.hidIt ((b3.block _ (Array.getElem?_eq_some_iff.1 X2.out).1).trans X2.out)
      have V3 := D.hidIt (V2.out.below b3)
      have Q3 := D.hidIt (hQ.below b3)
      obtain ⟨f0, f1, f2, f3, f4, -⟩ := row5 X3.out
      clear b2 b3 hD hQ q1 q2 q3 gD1 B2 X2 V2
      go_wp2_with fail
      refine (gS _ _ B3.out Q3.out).out.mono ?_
      rintro e w4 ⟨rfl, b4⟩
      have B4 := D.hidIt (next B3.out b4)
      have V4 := D.hidIt (V3.out.below b4)
      clear b4 B3 X3 V3 Q3 f0 f1 f2 f3 f4 gS
      go_wp2_with fail
      refine (gI _).out.mono ?_
      rintro e w' ⟨⟨m, hm, rfl⟩, hww⟩; cases hww
      have hm1 : (m : Int) ≤ (n : Int) := by omega
      have hm2 : m ≤ n := by omega
      have hcap : n ≤ c := by obtain ⟨_, _, e, h, _⟩ := V4.out; cases e; rw [HN.out] at h; exact h
      have hcap2 : (m : Int) ≤ (c : Int) := by omega
      have V5 : Hid (View w4 (.slice ao m c) ((classO k).take m)) := View.cut (by rw [HN.out]; exact V4.out) (by rw [HN.out]; exact hm2)
      clear gI
      go_wp2_with fail
      refine (gD2 _ _ V5.out).out.mono ?_
      rintro e w5 ⟨b5, hD⟩
      obtain ⟨why, at_, hy, rfl⟩ := dec_cut HR.out HOK.out HBY.out (by rw [HN.out]; omega) hD
      have hyb : (why == 0) = false := by simpa using hy
      have B5 := D.hidIt (next B4.out (next b5 (balloc w5 (.cells #[.string ⟨#[]⟩, .string ⟨#[]⟩, .slice none 0 0, .slice none 0 0, .slice none 0 0] 33))))
      clear b5 hD gD2
      unfold zeroK
      go_wp2
      go_meet
      exact B5.out
  case rest =>
    have B6 := D.hidIt hcut
    clear hcut HE HV HOK HBY HPOS B1 X1
    have gD : Hid (Calls Tryz.prog 10 #[.slice ob b.length cb] wc fun e w' => Below wc.heap.size wc w' ∧ ((∃ why at_, why ≠ 0 ∧ e = .returned (.tuple #[zeroK, .int .i64 why, .int .i64 at_])) ∨ ∃ u kk, e = .returned (.tuple #[u, .int .i64 0, .int .i64 0]) ∧ ClassQ w' u kk ∧ rightZ kk = 0 ∧ classO kk = b ∧ b.length ≤ 32768)) := by
      by_cases hl : 32768 < b.length
      · exact (decode_long ob b.length cb wc hl).mono fun e w' ⟨e1, e2⟩ => ⟨e2, .inl ⟨3, 0, by decide, e1⟩⟩
      · refine (decode_class _ b wc (HB.out.below B6.out) (by omega)).mono fun e w' ⟨e1, e2⟩ => ⟨e1, ?_⟩
        rcases dec_any HBB.out e2 with h | ⟨u, kk, h1, h2, h3, h4⟩
        · exact .inl h
        · exact .inr ⟨u, kk, h1, h2, h3, h4, by omega⟩
    go_wp2_with fail
    refine gD.out.mono ?_
    rintro e w7 ⟨b7, hD⟩
    have B7 := D.hidIt (next B6.out b7)
    clear b7 gD B6
    rcases hD with ⟨why, at_, hy, rfl⟩ | ⟨u, kk, rfl, hQ, hr, hbk, hl⟩
    · have hyb : (why == 0) = false := by simpa using hy
      have gZ := fun W => D.hidIt (same_class ⟨⟨#[]⟩, ⟨#[]⟩, [], [], []⟩ _ _ W (zero_V W) (zero_V W))
      unfold zeroK at gZ ⊢
      have B8 := D.hidIt (next B7.out (balloc w7 (.cells #[.string ⟨#[]⟩, .string ⟨#[]⟩, .slice none 0 0, .slice none 0 0, .slice none 0 0] 33)))
      clear HB HBB gE2 hy
      go_wp2_with fail
      refine (gZ _).out.mono ?_
      rintro e w9 ⟨rfl, b9⟩
      have B9 := D.hidIt (next B8.out b9)
      clear b9 gZ B7 B8
      go_wp2_with fail
      refine (gK _ B9.out).out.mono ?_
      rintro e w10 ⟨rfl, b10⟩
      have B10 := D.hidIt (next B9.out b10)
      clear b10
      go_wp2
      go_ret
      exact ⟨rfl, B10.out⟩
    · obtain ⟨pv, fv, mv, rfl, _, _, q1, _, q2, q3⟩ := id hQ
      obtain ⟨op, cp, rfl⟩ := slice_of_own q1
      obtain ⟨of, cf, rfl⟩ := q2.slice
      obtain ⟨om, cm, rfl⟩ := q3.slice
      have b8 := balloc w7 (.cells #[.string kk.nm, .string kk.sup, .slice op kk.pool.length cp, .slice of kk.fs.length cf, .slice om kk.ms.length cm] 33)
      have B8 := D.hidIt (next B7.out b8)
      have Q8 := D.hidIt (hQ.below b8)
      have HBK := D.hidIt hbk
      have HRR := D.hidIt hr
      have HLL := D.hidIt hl
      clear hQ q1 q2 q3 hbk hr hl b8 B7
      go_wp2_with fail
      refine (gE2 _ _ kk B8.out Q8.out).out.mono ?_
      rintro e w9 ⟨b9, hE⟩
      have B9 := D.hidIt (next B8.out b9)
      have hV9 : ∃ ao c, e = .returned (.tuple #[.slice ao b.length c, .int .i64 0]) ∧ View w9 (.slice ao b.length c) b := by
        rw [HRR.out, HBK.out] at hE
        rcases hE with ⟨hz, _⟩ | ⟨_, hz, _⟩ | ⟨_, _, vy, rfl, ho⟩
        · exact absurd rfl hz
        · have := HLL.out; omega
        · obtain ⟨ao, c, rfl⟩ := own_slice ho
          exact ⟨ao, c, rfl, View.of_own ho HBB.out⟩
      obtain ⟨ay, cy, rfl, hV⟩ := hV9
      have cs1 := run_string hV
      have cs2 := run_string (HB.out.below B9.out)
      clear b9 hE hV gE2 Q8 B8 HB
      generalize strOfNums b = sb at *
      go_wp2_with fail
      refine (gK _ B9.out).out.mono ?_
      rintro e w10 ⟨rfl, b10⟩
      have B10 := D.hidIt (next B9.out b10)
      clear b10
      go_wp2
      go_ret
      exact ⟨rfl, B10.out⟩
end Go.Proofs.YthagaldpopnoeaaGreatDoor
