/- The document's own Encode: walked, where Name answers its name. -/
import Derived.Test.YtcmneinhcfejhaaRQ
import Derived.Test.YtcmneinhcfejhaaE
namespace Go.Proofs.Ytcmneinhcfejhaa
open Go.RowKit

set_option maxRecDepth 8000 in
set_option maxHeartbeats 4000000 in
theorem rencode_any (hN : NameC) (v : Value) (l : List IN) (w : World) (hv : IView w v l) (hlen : l.length ≤ 400) :
    Calls Try.prog 25 #[v] w fun e w' => Below w.heap.size w w' ∧ ∃ v', e = .returned (.tuple #[v', .int .i64 (encL l []).2]) ∧ w'.ownsRow w.heap.size 5 1 v' (encL l []).1.length (bcells (encL l []).1) := by
  have HV := hidIt hv
  generalize hZ : encL l [] = Z at *
  have HZ := hidIt hZ
  have HNM := hidIt hN
  clear hZ hN
  obtain ⟨ao, cap, rfl, hc, hm, hl⟩ := hv
  unfold maxLen at hm
  go_enter Try.func25, Try.ntmps25
  go_wp2
  go_loopw [4, 5] (fun b ix wr => ∃ (k : Nat) (out : List Int), ix = .int .i64 (k : Int) ∧ k ≤ l.length ∧ out.length ≤ 3 * k ∧ Hid (AllBytes out ∧ encL (l.drop k) out = Z) ∧ wr.ownsRow w.heap.size 5 1 b out.length (bcells out) ∧ Below w.heap.size w wr) (fun _ ix _ => l.length - (intOf ix).toNat)
  case atStart => exact ⟨0, [], rfl, Nat.zero_le _, Nat.zero_le _, ⟨AllBytes.nil, HZ.out⟩, World.ownsRow_nil _ _ _ _, Below.refl _ _⟩
  case round =>
    clear HZ
    obtain ⟨k, out, rfl, hk, hout, HZ, ho, hb⟩ := hrel
    obtain ⟨aob, capb, rfl⟩ := own_slice ho
    by_cases hlt : k < l.length
    · have hlt' : (k : Int) < (l.length : Int) := by omega
      obtain ⟨i, hi⟩ : ∃ i, l[k]? = some i := ⟨l[k], List.getElem?_eq_getElem hlt⟩
      have HIV := hidIt (HV.out.below hb)
      obtain ⟨g, off, rfl, hI⟩ := HIV.out.row hi
      have HIA := hidIt hI
      obtain ⟨i0, i1, i2, i3⟩ := hI
      have hd : l.drop k = i :: l.drop (k + 1) := by
        rw [List.drop_eq_getElem_cons hlt]
        congr 1
        rw [List.getElem?_eq_getElem hlt] at hi; exact Option.some.inj hi
      have HZ1 : Hid (AllBytes out ∧ (if kd i.op = 0 then ([], 15) else if i.pl ≠ (out.length : Int) then ([], 16) else if fitsB i = false then ([], 1) else encL (l.drop (k + 1)) (out ++ oneB i)) = Z) := by
        have h := HZ.out
        rw [hd, enc_step] at h
        exact h
      have HB := hidIt hb
      have HO := hidIt ho
      have gS := hidIt (rsize HNM.out i.op wr)
      have hz0 := sz_zero i.op
      clear HZ hd hb ho hi HIV
      go_wp2_with fail
      refine gS.out.mono ?_
      rintro e w1 ⟨rfl, b1⟩
      have HB1 := hidIt (HB.out.trans (b1.mono HB.out.size))
      have HO1 := hidIt (own_below HO.out b1)
      have HIA1 := hidIt (HIA.out.below b1)
      clear gS b1 HIA HO HB i0 i1 i2 i3
      obtain ⟨j0, j1, j2, j3⟩ := id HIA1.out
      by_cases hk0 : kd i.op = 0
      · rw [hz0.2 hk0]
        have hz := HZ1.out.2
        rw [if_pos hk0] at hz
        subst hz
        clear HZ1 hz0 HV
        go_wp2
        go_ret2
        exact ⟨HB1.out, _, rfl, World.ownsRow_nil _ _ _ _⟩
      · have hz := HZ1.out
        rw [if_neg hk0] at hz
        have hsz : sz i.op ≠ 0 := fun h => hk0 (hz0.1 h)
        have HSL := hidIt (sz_le i.op)
        have HL1 := hidIt (one_len i hk0)
        generalize sz i.op = s at *
        have s0 : ((s : Int) == 0) = false := by simpa using hsz
        clear HZ1 hz0
        by_cases hpl : i.pl = (out.length : Int)
        · rw [if_neg (by simpa using hpl)] at hz
          have HZ2 := hidIt hz
          clear hz
          have hpl' : (i.pl == (out.length : Int)) = true := by simpa using hpl
          have GO := hidIt (rone HNM.out i hk0 (by omega) (by omega) w1)
          have HF := hidIt (fitsB_iff i)
          generalize hfb : fitsB i = fb at *
          clear hpl
          go_wp2_with fail
          refine GO.out.mono ?_
          rintro e w2 ⟨b2, aor, nr, cr, rfl, hown⟩
          have HB2 := hidIt (HB1.out.trans (b2.mono HB1.out.size))
          have HO2 := hidIt (own_below HO1.out b2)
          clear GO b2 HIA1 j0 j1 j2 j3 HB1
          cases fb with
          | true =>
            have hr := hown rfl
            have hz := HZ2.out
            rw [if_neg (by decide)] at hz
            have HZ3 := hidIt hz
            have hab := one_bytes i hk0
            have VR := View.of_own hr hab
            have zs := HB2.out.size
            have h3 := HSL.out
            have h4 := HL1.out
            have hnr : nr = s := by
              obtain ⟨_, _, e⟩ := own_slice hr
              cases e
              exact h4
            subst hnr
            clear hz HZ2 hown HF hfb hr
            have O2 := HO2.out
            go_wp2_with (at_builtin; refine wpList_append_view rfl _ _ rfl w.heap.size _ _ _ _ (oneB i) rfl O2 rfl VR (by omega) zs ?_; intro v3 w3 ho3 st3; obtain ⟨ao3, cap3, rfl⟩ := own_slice ho3; have HS3 := hidIt st3; have HO3 := hidIt ho3; clear st3 ho3 VR O2)
            have O3 := HO3.out
            have hb3 := HB2.out.trans (HS3.out.below zs (fun k hk => (HO2.out.lt k hk).1))
            exact ⟨⟨k + 1, out ++ oneB i, by go_num, by omega, by rw [List.length_append, h4]; omega, ⟨HZ3.out.1.append hab, HZ3.out.2⟩, by rw [bcells_append, List.length_append]; rw [h4] at O3 ⊢; exact O3, hb3⟩, by simp [intOf]; omega⟩
          | false =>
            have hz := HZ2.out.2
            rw [if_pos rfl] at hz
            subst hz
            clear HZ2 hown HF hfb
            go_wp2
            go_ret2
            exact ⟨HB2.out, _, rfl, World.ownsRow_nil _ _ _ _⟩
        · rw [if_pos hpl] at hz
          obtain ⟨_, rfl⟩ := hz
          have hpl' : (i.pl == (out.length : Int)) = false := by simpa using hpl
          go_wp2
          go_ret2
          exact ⟨HB1.out, _, rfl, World.ownsRow_nil _ _ _ _⟩
    · have hlt' : ¬ (k : Int) < (l.length : Int) := by omega
      have hz := HZ.out.2
      rw [List.drop_eq_nil_of_le (by omega)] at hz
      unfold encL at hz
      have HB := hidIt hb
      have HO := hidIt ho
      clear HZ hb ho HV
      by_cases hbig : 1024 < out.length
      · have hb' : (1024 : Int) < (out.length : Int) := by omega
        rw [if_pos hbig] at hz
        subst hz
        go_wp2
        go_ret2
        exact ⟨HB.out, _, rfl, World.ownsRow_nil _ _ _ _⟩
      · have hb' : ¬ (1024 : Int) < (out.length : Int) := by omega
        rw [if_neg hbig] at hz
        subst hz
        go_wp2
        go_ret2
        exact ⟨HB.out, _, rfl, HO.out⟩
end Go.Proofs.Ytcmneinhcfejhaa
