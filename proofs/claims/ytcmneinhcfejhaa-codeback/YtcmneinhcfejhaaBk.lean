/- CodeBack, walked. -/
import Derived.Test.YtcmneinhcfejhaaKn
namespace Go.Proofs.Ytcmneinhcfejhaa
open Go.RowKit

theorem dec_ok (b : List Int) : ∀ (f p : Nat) (acc : List IN), (decL5 b f p acc).2.1 = 0 → (decL5 b f p acc).2.2 = 0
  | 0, p, acc, _ => rfl
  | f + 1, p, acc, h => by
    unfold decL5 at h ⊢
    split
    · rfl
    · rename_i hd
      rw [hd] at h
      simp only at h ⊢
      split at h
      · cases h
      · split at h
        · cases h
        · rename_i h1 h2
          rw [if_neg h1, if_neg h2]
          exact dec_ok b f _ _ h
theorem decZ_ok (b : List Int) (h : (decZ5 b).2.1 = 0) : decZ5 b = ((decZ5 b).1, 0, 0) := by
  have h2 : (decZ5 b).2.2 = 0 := by
    unfold decZ5 at h ⊢
    split at h
    · cases h
    · rename_i hb
      rw [if_neg hb]
      exact dec_ok b _ _ _ h
  generalize decZ5 b = Z at *
  obtain ⟨x, y, z⟩ := Z
  simp only at h h2
  subst h h2
  rfl
theorem enc_no : ∀ (l : List IN) (out : List Int), (encL l out).2 ≠ 0 → (encL l out).1 = []
  | [], out, h => by
    unfold encL at h ⊢
    split at h
    · rename_i hb; rw [if_pos hb]
    · exact absurd rfl h
  | i :: l, out, h => by
    rw [enc_step] at h ⊢
    split
    · rfl
    · rename_i h1
      split
      · rfl
      · rename_i h2
        split
        · rfl
        · rename_i h3
          rw [if_neg h1, if_neg h2, if_neg h3] at h
          exact enc_no l _ h
/-- What it says of the first one that it was written. -/
theorem enc_cons {i : IN} {l : List IN} {out b : List Int} (h : encL (i :: l) out = (b, 0)) : kd i.op ≠ 0 ∧ i.pl = (out.length : Int) ∧ encL l (out ++ oneB i) = (b, 0) ∧ (out ++ oneB i).length = out.length + sz i.op := by
  rw [enc_step] at h
  split at h
  · cases h
  · rename_i h1
    split at h
    · cases h
    · rename_i h2
      split at h
      · cases h
      · exact ⟨h1, Classical.not_not.1 h2, h, by rw [List.length_append, one_len i h1]⟩
theorem m_len : ∀ {m : List IN} {out b : List Int}, encL m out = (b, 0) → out.length + m.length ≤ b.length
  | [], out, b, h => by
    unfold encL at h
    split at h
    · cases h
    · cases h; simp
  | i :: m, out, b, h => by
    obtain ⟨h1, _, h3, h4⟩ := enc_cons h
    have := m_len h3
    have hs := sz_pos h1
    simp only [List.length_cons]
    omega
theorem enc_nil {out b : List Int} (h : encL [] out = (b, 0)) : out = b := by
  unfold encL at h
  split at h
  · cases h
  · cases h; rfl

set_option maxRecDepth 8000 in
set_option maxHeartbeats 8000000 in
theorem back_any (vb vl : Value) (b : List Int) (l : List IN) (w : World) (hvb : View w vb b) (hvl : IView w vl l) (hlen : l.length ≤ 35184372088832) :
    Calls Try.prog 6 #[vb, vl] w fun e w' => e = .returned (.bool true) ∧ Below w.heap.size w w' := by
  have HVb := hidIt hvb
  have HVl := hidIt hvl
  have G1 := hidIt (decode_any vb b w hvb)
  have HOK := hidIt (decZ_ok b)
  have HB1 := hidIt (back1 b (by obtain ⟨_, _, _, _, _, h, _⟩ := hvb; exact h))
  generalize decZ5 b = D at *
  obtain ⟨m, why, place⟩ := D
  simp only at G1 HOK HB1
  obtain ⟨aob, capb, rfl, hcb, hmb, _⟩ := hvb
  obtain ⟨aol, capl, rfl, hcl, hml, _⟩ := hvl
  unfold maxLen at hmb hml
  go_enter Try.func6, Try.ntmps6
  go_wp2_with fail
  refine G1.out.mono ?_
  rintro e w1 ⟨b1, v1, rfl, o1⟩
  have HB := hidIt b1
  have HO1 := hidIt o1
  obtain ⟨ao1, cap1, rfl⟩ := own_slice o1
  clear b1 o1 G1
  by_cases hw : why = 0
  · have hD := HOK.out hw
    subst hw
    cases hD
    have hE := HB1.out m rfl
    have HE := hidIt hE
    have I1 := IView.of_own HO1.out
    have g2 := encode_any _ m w1 I1 (by
      have h1 := (dec_enc m [] b hE).1
      have h2 := m_len hE
      omega)
    rw [hE] at g2
    have G2 := hidIt g2
    have HVb1 := HVb.out.below HB.out
    have HI1 := hidIt I1
    have hm1 : m.length ≤ 1024 := by
      have h1 := (dec_enc m [] b hE).1
      have h2 := m_len hE
      omega
    clear HOK HB1 hE I1 g2
    go_wp2_with fail
    refine G2.out.mono ?_
    rintro e w2 ⟨b2, v2, rfl, o2⟩
    have B2 := hidIt (HB.out.trans (b2.mono HB.out.size))
    have hVb2 := HVb1.below b2
    have hS1 := run_string hVb2
    have hab : AllBytes b := by obtain ⟨_, _, _, _, _, h, _⟩ := hVb2; exact h
    have hV2 := View.of_own o2 hab
    obtain ⟨ao2, cap2, rfl⟩ := own_slice o2
    have hS2 := run_string hV2
    have HI2 := hidIt (HI1.out.below b2)
    clear G2 b2 o2 hV2 hVb2 HVb1 HI1 hab
    go_wp2_with fail
    go_loopw [10, 11] (fun at_ k_ wr => ∃ (k : Nat) (out : List Int), at_ = .int .i64 (out.length : Int) ∧ k_ = .int .i64 (k : Int) ∧ k ≤ m.length ∧ Hid (encL (m.drop k) out = (b, 0)) ∧ wr = w2) (fun _ k_ _ => m.length - (intOf k_).toNat)
    case atStart => exact ⟨0, [], rfl, rfl, Nat.zero_le _, HE.out, rfl⟩
    case round =>
      obtain ⟨k, out, rfl, rfl, hk, HK, hww⟩ := hrel
      cases hww
      by_cases hlt : k < m.length
      · have hlt' : (k : Int) < (m.length : Int) := by omega
        obtain ⟨i, hi⟩ : ∃ i, m[k]? = some i := ⟨m[k], List.getElem?_eq_getElem hlt⟩
        obtain ⟨g, off, rfl, i0, i1, i2, i3⟩ := HI2.out.row hi
        have hd : m.drop k = i :: m.drop (k + 1) := by
          rw [List.drop_eq_getElem_cons hlt]
          congr 1
          rw [List.getElem?_eq_getElem hlt] at hi; exact Option.some.inj hi
        have hE2 := HK.out
        rw [hd] at hE2
        obtain ⟨h1, h2, h3, h4⟩ := enc_cons hE2
        have h5 := (dec_enc _ _ _ hE2).2
        obtain ⟨R, h5, _⟩ := h5
        have h6 := (dec_enc _ _ _ hE2).1
        have h7 : out.length ≤ 1024 := by rw [h5] at h6; simp at h6; omega
        have hs := sz_pos h1
        have hs3 := sz_le i.op
        have H3 := hidIt h3
        have H4 := hidIt h4
        rw [h2] at i0
        have GS := hidIt (size_any i.op w2)
        generalize sz i.op = s at *
        have hs' : ¬ (s : Int) < 1 := by omega
        clear hi hd hE2 h3 h4 h5 h6 HK h2 hS1 hS2
        go_wp2_with fail
        refine GS.out.mono ?_
        rintro e w3 ⟨rfl, hww⟩; cases hww
        go_wp2_with fail
        refine GS.out.mono ?_
        rintro e w3 ⟨rfl, hww⟩; cases hww
        go_wp2
        exact ⟨⟨k + 1, out ++ oneB i, by rw [H4.out]; go_num, by go_num, by omega, H3.out, (by first | rfl | trivial)⟩, by simp [intOf]; omega⟩
      · have hlt' : ¬ (k : Int) < (m.length : Int) := by omega
        have hE2 := HK.out
        rw [List.drop_eq_nil_of_le (by omega)] at hE2
        have hob := enc_nil hE2
        subst hob
        clear hE2 HK hS1 hS2 HE
        have IB := HVl.out.below B2.out
        have GE := hidIt (encode_any _ l w2 IB hlen)
        have HBK := hidIt (fun (h : (encL l []).2 = 0) => back2 l (encL l []).1 (show encL l [] = ((encL l []).1, 0) by rw [← h]))
        have HNO := hidIt (enc_no l [])
        have HAB := hidIt (enc_bytes l [] AllBytes.nil)
        generalize encL l [] = Z at *
        obtain ⟨zc, zf⟩ := Z
        simp only at GE HBK HNO HAB
        have HIL := hidIt IB
        clear IB
        go_wp2_with fail
        refine GE.out.mono ?_
        rintro e w5 ⟨b5, v5, rfl, o5⟩
        have B5 := hidIt (B2.out.trans (b5.mono B2.out.size))
        have HIL5 := hidIt (HIL.out.below b5)
        obtain ⟨ao5, cap5, rfl⟩ := own_slice o5
        clear GE HIL
        by_cases hzf : zf = 0
        · subst hzf
          have V5 := View.of_own o5 HAB.out
          have g6 := decode_any _ zc w5 V5
          rw [HBK.out rfl] at g6
          have G6 := hidIt g6
          clear g6 V5 HBK HNO HAB o5 b5
          go_wp2_with fail
          refine G6.out.mono ?_
          rintro e w6 ⟨b6, v6, rfl, o6⟩
          have B6 := hidIt (B5.out.trans (b6.mono B5.out.size))
          have HIL6 := HIL5.out.below b6
          have V6 := IView.of_own o6
          have G7 := hidIt (isame_any _ _ l w6 V6 HIL6)
          obtain ⟨ao6, cap6, rfl⟩ := own_slice o6
          clear G6 b6 HIL6 V6 o6 HIL5 B5
          go_wp2_with fail
          refine G7.out.mono ?_
          rintro e w7 ⟨rfl, q, hww⟩
          have B7 := hidIt (below_drewN B6.out q)
          rw [← hww] at B7
          have G8 := hidIt (known_any w7)
          clear hww B6 G7
          go_wp2_with fail
          refine G8.out.mono ?_
          rintro e w8 ⟨rfl, b8⟩
          have B8 := hidIt (B7.out.trans (b8.mono B7.out.size))
          clear b8 B7 G8
          go_wp2
          go_ret
          exact ⟨rfl, B8.out⟩
        · have hc0 := HNO.out hzf
          subst hc0
          have hzf' : (zf == 0) = false := by simpa using hzf
          have G8 := hidIt (known_any w5)
          clear HBK HNO HAB o5 b5 HIL5
          go_wp2_with fail
          refine G8.out.mono ?_
          rintro e w8 ⟨rfl, b8⟩
          have B8 := hidIt (B5.out.trans (b8.mono B5.out.size))
          clear b8 B5 G8
          go_wp2
          go_ret
          exact ⟨rfl, B8.out⟩
  · have hw' : (why == 0) = false := by simpa using hw
    clear HOK HB1
    have IB := HVl.out.below HB.out
    have GE := hidIt (encode_any _ l w1 IB hlen)
    have HBK := hidIt (fun (h : (encL l []).2 = 0) => back2 l (encL l []).1 (show encL l [] = ((encL l []).1, 0) by rw [← h]))
    have HNO := hidIt (enc_no l [])
    have HAB := hidIt (enc_bytes l [] AllBytes.nil)
    generalize encL l [] = Z at *
    obtain ⟨zc, zf⟩ := Z
    simp only at GE HBK HNO HAB
    have HIL := hidIt IB
    clear IB
    go_wp2_with fail
    refine GE.out.mono ?_
    rintro e w5 ⟨b5, v5, rfl, o5⟩
    have B5 := hidIt (HB.out.trans (b5.mono HB.out.size))
    have HIL5 := hidIt (HIL.out.below b5)
    obtain ⟨ao5, cap5, rfl⟩ := own_slice o5
    clear GE HIL
    by_cases hzf : zf = 0
    · subst hzf
      have V5 := View.of_own o5 HAB.out
      have g6 := decode_any _ zc w5 V5
      rw [HBK.out rfl] at g6
      have G6 := hidIt g6
      clear g6 V5 HBK HNO HAB o5 b5
      go_wp2_with fail
      refine G6.out.mono ?_
      rintro e w6 ⟨b6, v6, rfl, o6⟩
      have B6 := hidIt (B5.out.trans (b6.mono B5.out.size))
      have HIL6 := HIL5.out.below b6
      have V6 := IView.of_own o6
      have G7 := hidIt (isame_any _ _ l w6 V6 HIL6)
      obtain ⟨ao6, cap6, rfl⟩ := own_slice o6
      clear G6 b6 HIL6 V6 o6 HIL5 B5
      go_wp2_with fail
      refine G7.out.mono ?_
      rintro e w7 ⟨rfl, q, hww⟩
      have B7 := hidIt (below_drewN B6.out q)
      rw [← hww] at B7
      have G8 := hidIt (known_any w7)
      clear hww B6 G7
      go_wp2_with fail
      refine G8.out.mono ?_
      rintro e w8 ⟨rfl, b8⟩
      have B8 := hidIt (B7.out.trans (b8.mono B7.out.size))
      clear b8 B7 G8
      go_wp2
      go_ret
      exact ⟨rfl, B8.out⟩
    · have hc0 := HNO.out hzf
      subst hc0
      have hzf' : (zf == 0) = false := by simpa using hzf
      have G8 := hidIt (known_any w5)
      clear HBK HNO HAB o5 b5 HIL5
      go_wp2_with fail
      refine G8.out.mono ?_
      rintro e w8 ⟨rfl, b8⟩
      have B8 := hidIt (B5.out.trans (b8.mono B5.out.size))
      clear b8 B5 G8
      go_wp2
      go_ret
      exact ⟨rfl, B8.out⟩
end Go.Proofs.Ytcmneinhcfejhaa
