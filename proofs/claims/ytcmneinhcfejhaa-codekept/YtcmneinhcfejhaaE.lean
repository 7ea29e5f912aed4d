/- Encode of package code: walked. -/
import Derived.Test.YtcmneinhcfejhaaW
namespace Go.Proofs.Ytcmneinhcfejhaa
open Go.RowKit

theorem enc_step (i : IN) (l : List IN) (out : List Int) : encL (i :: l) out = if kd i.op = 0 then ([], 15) else if i.pl ≠ (out.length : Int) then ([], 16) else if fitsB i = false then ([], 1) else encL l (out ++ oneB i) := rfl
theorem enc_bytes : ∀ (l : List IN) (out : List Int), AllBytes out → AllBytes (encL l out).1
  | [], out, h => by
    unfold encL
    split
    · exact AllBytes.nil
    · exact h
  | i :: l, out, h => by
    rw [enc_step]
    split
    · exact AllBytes.nil
    · rename_i hk
      split
      · exact AllBytes.nil
      · split
        · exact AllBytes.nil
        · exact enc_bytes l _ (h.append (one_bytes i hk))
theorem View.from {w : World} {g off c p : Nat} {l : List Int} (h : View w (.slice (some ⟨g, off, none⟩) l.length c) l) (hp : p ≤ l.length) : View w (.slice (some ⟨g, off + p, none⟩) (l.length - p) (c - p)) (l.drop p) := by
  obtain ⟨ao', cap, e, hc, hm, hy, hl⟩ := h
  cases e
  refine ⟨_, c - p, by rw [List.length_drop], by rw [List.length_drop]; omega, by omega, fun x hx => hy x (List.mem_of_mem_drop hx), ?_⟩
  rcases hl with rfl | ⟨g', off', e, hl⟩
  · exact .inl (by simp)
  · cases e
    refine .inr ⟨g, off + p, rfl, fun j x hj => ?_⟩
    rw [List.getElem?_drop] at hj
    rw [Nat.add_assoc]
    exact hl (p + j) x hj
theorem inst_place (p op : Int) (t : List Int) : (inst p op t).pl = p ∧ (inst p op t).op = op := by
  unfold inst
  split <;> exact ⟨rfl, rfl⟩
/-- What the bytes of one that does not fit say is another one. -/
theorem inst_other (i : IN) (hk : kd i.op ≠ 0) {t : List Int} (ht : oneB i = i.op :: t) (hf : fitsB i = false) : ∃ xa xb, inst i.pl i.op t = ⟨i.pl, i.op, xa, xb⟩ ∧ (xa = i.a → xb ≠ i.b) := by
  obtain ⟨h1, h2⟩ := inst_place i.pl i.op t
  refine ⟨(inst i.pl i.op t).a, (inst i.pl i.op t).b, ?_, fun ha hb => ?_⟩
  · generalize inst i.pl i.op t = x at *
    obtain ⟨a, b, c, d⟩ := x
    simp only at h1 h2
    subst h1 h2
    rfl
  · have : fits i := (inst_iff i hk ht).1 (by
      generalize inst i.pl i.op t = x at *
      obtain ⟨a, b, c, d⟩ := x
      obtain ⟨a', b', c', d'⟩ := i
      simp only at *
      subst h1 h2 ha hb
      rfl)
    rw [(fitsB_iff i).2 this] at hf
    cases hf
set_option maxRecDepth 8000 in
set_option maxHeartbeats 4000000 in
theorem encode_any (v : Value) (l : List IN) (w : World) (hv : IView w v l) (hlen : l.length ≤ 35184372088832) :
    Calls Try.prog 18 #[v] w fun e w' => Below w.heap.size w w' ∧ ∃ v', e = .returned (.tuple #[v', .int .i64 (encL l []).2]) ∧ w'.ownsRow w.heap.size 5 1 v' (encL l []).1.length (bcells (encL l []).1) := by
  have HV := hidIt hv
  generalize hZ : encL l [] = Z at *
  have HZ := hidIt hZ
  clear hZ
  obtain ⟨ao, cap, rfl, hc, hm, hl⟩ := hv
  unfold maxLen at hm
  go_enter Try.func18, Try.ntmps18
  go_wp2
  go_loopw [4, 10] (fun b ix wr => ∃ (k : Nat) (out : List Int), ix = .int .i64 (k : Int) ∧ k ≤ l.length ∧ out.length ≤ 3 * k ∧ Hid (AllBytes out ∧ encL (l.drop k) out = Z) ∧ wr.ownsRow w.heap.size 5 1 b out.length (bcells out) ∧ Below w.heap.size w wr) (fun _ ix _ => l.length - (intOf ix).toNat)
  case atStart => exact ⟨0, [], rfl, Nat.zero_le _, Nat.zero_le _, ⟨AllBytes.nil, HZ.out⟩, World.ownsRow_nil _ _ _ _, Below.refl _ _⟩
  case round =>
    clear HZ
    obtain ⟨k, out, rfl, hk, hout, HZ, ho, hb⟩ := hrel
    obtain ⟨aob, capb, rfl⟩ := own_slice ho
    by_cases hlt : k < l.length
    · have hlt' : (k : Int) < (l.length : Int) := by omega
      obtain ⟨i, hi⟩ : ∃ i, l[k]? = some i := ⟨l[k], List.getElem?_eq_getElem hlt⟩
      obtain ⟨g, off, rfl, hI⟩ := (HV.out.below hb).row hi
      obtain ⟨i0, i1, i2, i3⟩ := hI
      have hd : l.drop k = i :: l.drop (k + 1) := by
        rw [List.drop_eq_getElem_cons hlt]
        congr 1
        rw [List.getElem?_eq_getElem hlt] at hi; exact Option.some.inj hi
      have HZ1 : Hid (AllBytes out ∧ (if kd i.op = 0 then ([], 15) else if i.pl ≠ (out.length : Int) then ([], 16) else if fitsB i = false then ([], 1) else encL (l.drop (k + 1)) (out ++ oneB i)) = Z) := by
        have h := HZ.out
        rw [hd, enc_step] at h
        exact h
      have HB := hidIt hb
      have HO := hidIt ho
      have hg := cell_lt i0
      have gS := hidIt (fun W => size_any i.op W)
      have hz0 := sz_zero i.op
      clear HZ hd hb ho hi
      by_cases hk0 : kd i.op = 0
      · rw [hz0.2 hk0] at gS
        have hz := HZ1.out.2
        rw [if_pos hk0] at hz
        subst hz
        clear HZ1 hz0 HV
        go_wp2_with fail
        refine (gS.out _).mono ?_
        rintro e w1 ⟨rfl, hww⟩; cases hww
        go_wp2
        go_ret2
        exact ⟨HB.out.alloc HB.out.size _, _, rfl, World.ownsRow_nil _ _ _ _⟩
      · have hz := HZ1.out
        rw [if_neg hk0] at hz
        have hsz : sz i.op ≠ 0 := fun h => hk0 (hz0.1 h)
        have s0 : ((sz i.op : Int) == 0) = false := by simpa using hsz
        generalize hS : sz i.op = s at *
        have HS := hidIt hS
        clear HZ1 hz0 hS
        by_cases hpl : i.pl = (out.length : Int)
        · rw [if_neg (by simpa using hpl)] at hz
          have HZ2 := hidIt hz
          clear hz
          have hpl' : (i.pl == (out.length : Int)) = true := by simpa using hpl
          have HPL := hidIt hpl
          clear hpl
          obtain ⟨t, ht⟩ := one_form i
          have HT := hidIt ht
          have HL1 : Hid ((oneB i).length = s) := by show _ = _; rw [← HS.out]; exact one_len i hk0
          have gW := hidIt (fun (W : World) h1 h3 => write_any w.heap.size (.slice aob out.length capb) out i W hk0 h1 (by omega) h3)
          have HBX := hidIt (box_at wr i)
          have HBA := hidIt (below_alloc wr (.cells #[.int .i64 i.pl, .int .i64 i.op, .int .i64 i.a, .int .i64 i.b] 33))
          have hbz := HB.out.size
          clear ht
          go_wp2_with fail
          refine (gS.out _).mono ?_
          rintro e w1 ⟨rfl, hww⟩; cases hww
          go_wp2_with fail
          have gW2 := gW.out _ (own_below HO.out HBA.out) (by simp; omega)
          unfold IN.val at gW2
          refine gW2.mono ?_
          rintro e w2 ⟨v2, rfl, o2, st2⟩
          obtain ⟨n2, hn2⟩ : ∃ n2, n2 = out.length + s := ⟨_, rfl⟩
          have hln : (out ++ oneB i).length = n2 := by rw [List.length_append, HL1.out, hn2]
          have hbx : IAt w2 wr.heap.size 0 i := HBX.out.block (st2.grown.block _ (by simp) (fun e => by have := (HO.out.lt _ e.symm).2; omega))
          have hBelow : Below w.heap.size w w2 := (HB.out.alloc HB.out.size _).trans (st2.below (by simp; omega) (fun k hk => (HO.out.lt k hk).1))
          have hab : AllBytes (out ++ oneB i) := HZ2.out.1.append (one_bytes i hk0)
          have hV := View.of_own o2 hab
          obtain ⟨g2, cap2, rfl⟩ : ∃ g2 cap2, v2 = .slice (some ⟨g2, 0, none⟩) n2 cap2 := by
            rcases o2.2 with ⟨_, h0⟩ | ⟨g2, cap2, cur, e, _⟩
            · omega
            · exact ⟨g2, cap2, by rw [e, hln]⟩
          obtain ⟨hcap, hcm⟩ : n2 ≤ cap2 ∧ cap2 ≤ maxLen := by
            obtain ⟨_, c, e, hc, hm, _⟩ := hV
            rw [hln] at e hc
            cases e
            exact ⟨hc, hm⟩
          unfold maxLen at hcm
          rw [← hln] at hV
          have hP := hV.from (p := out.length) (by omega)
          rw [List.drop_left, hln, HT.out, Nat.zero_add] at hP
          have hsl : t.length + 1 = s := by rw [← HL1.out, HT.out]; rfl
          have hR2 : Calls Try.prog 33 #[.slice (some ⟨g2, out.length, none⟩) (n2 - out.length) (cap2 - out.length), .int .i64 (out.length : Int)] w2.drew fun e w' => e = .returned (inst i.pl i.op t).val ∧ Below w2.drew.heap.size w2.drew w' := by
            rw [HPL.out]
            exact read_any _ i.op t out.length w2.drew (hP.drewN 1) hk0 (by rw [HS.out]; exact hsl) (by omega)
          rw [hln] at o2
          have hn3 : out.length < n2 := by omega
          have hn4 : (out.length : Int) < (n2 : Int) := by omega
          have hn5 : (n2 : Int) ≤ (cap2 : Int) := by omega
          have HN2 := hidIt hn2
          have HLN := hidIt hln
          have hsr : ∀ W : World, (Instr.slice 29 (.slice (some ⟨g2, 0, none⟩) n2 cap2) (some (.int .i64 (out.length : Int))) none none).run Try.prog W = .ok (.slice (some ⟨g2, out.length, none⟩) (n2 - out.length) (cap2 - out.length)) W := fun W => by
            rw [run_slice_l W 29 _ _ cap2 (by kernel_rfl) .i64 (out.length : Int) (by omega) (by omega)]
            rw [show Try.prog.elem 29 = 5 by kernel_rfl, Try.sizeOf5]
            simp only [Result.andThen, sliced]
            rw [if_neg (show ¬ cap2 = (out.length : Int).toNat by omega)]
            simp [Addr.add]
            intro h
            simp [h]
          clear hn2 hsl hln
          have HO2 := hidIt o2
          have HBL := hidIt hBelow
          have HI := hidIt (inst_iff i hk0 HT.out)
          have HF := hidIt (fitsB_iff i)
          have HN := hidIt (fun h => inst_other i hk0 HT.out h)
          obtain ⟨d0, d1, d2, d3⟩ := hbx
          have hS2 : Hid (w2.drew.cell? ⟨wr.heap.size, 0, none⟩ = some (.int .i64 i.pl) ∧ w2.drew.cell? ⟨wr.heap.size, 0 + 1, none⟩ = some (.int .i64 i.op) ∧ w2.drew.cell? ⟨wr.heap.size, 0 + 2, none⟩ = some (.int .i64 i.a) ∧ w2.drew.cell? ⟨wr.heap.size, 0 + 3, none⟩ = some (.int .i64 i.b)) := ⟨d0, d1, d2, d3⟩
          have hS3 : Hid (∀ W3, Below w2.drew.heap.size w2.drew W3 → (W3.cell? ⟨wr.heap.size, 0, none⟩ = some (.int .i64 i.pl) ∧ W3.cell? ⟨wr.heap.size, 1, none⟩ = some (.int .i64 i.op) ∧ W3.cell? ⟨wr.heap.size, 2, none⟩ = some (.int .i64 i.a) ∧ W3.cell? ⟨wr.heap.size, 3, none⟩ = some (.int .i64 i.b))) := by
            intro W3 h
            exact ⟨cell_later h d0, cell_later h d1, cell_later h d2, cell_later h d3⟩
          clear gW2 gW o2 st2 hV hP hab HBA HBX d0 d1 d2 d3 gS hBelow
          by_cases hfit : fitsB i = true
          · have hz := HZ2.out
            rw [if_neg (by rw [hfit]; decide)] at hz
            have HZ3 := hidIt hz
            rw [HI.out.2 (HF.out.1 hfit)] at hR2
            unfold IN.val at hR2
            have gR := hidIt hR2
            clear hz HZ2 hR2 HN HI HF
            go_wp2_with fail
            go_region_held3 (fun W => W.cell? ⟨wr.heap.size, 0, none⟩ = some (.int .i64 i.pl) ∧ W.cell? ⟨wr.heap.size, 1, none⟩ = some (.int .i64 i.op) ∧ W.cell? ⟨wr.heap.size, 2, none⟩ = some (.int .i64 i.a) ∧ W.cell? ⟨wr.heap.size, 3, none⟩ = some (.int .i64 i.b)) (first | exact hS2.out | exact hS3.out _ (by assumption))
              (first
                | (go_at_call 33; refine gR.out.mono ?_; rintro e w3 ⟨rfl, b3⟩))
            have hb3 := HBL.out.trans ((below_drewN (Below.refl _ w2) 1).trans b3 |>.mono HBL.out.size)
            have O3 := own_below (own_below HO2.out (below_drewN (Below.refl _ w2) 1)) b3
            rw [← HLN.out] at O3
            go_wp2
            exact ⟨⟨k + 1, out ++ oneB i, by go_num, by omega, by rw [HLN.out, HN2.out]; have := sz_le i.op; rw [HS.out] at this; omega, ⟨HZ3.out.1.append (one_bytes i hk0), HZ3.out.2⟩, by rw [HLN.out] at O3 ⊢; exact O3, hb3⟩, by simp [intOf]; omega⟩
          · have hfit' : fitsB i = false := by simpa using hfit
            have hz := HZ2.out.2
            rw [if_pos hfit'] at hz
            subst hz
            obtain ⟨xa, xb, hx, hne⟩ := HN.out hfit'
            rw [hx] at hR2
            unfold IN.val at hR2
            have gR := hidIt hR2
            clear HZ2 hR2 HN HI HF hx
            by_cases hxa : xa = i.a
            · have hxb := hne hxa
              subst hxa
              clear hne
              go_wp2_with fail
              go_region_held3 (fun W => W.cell? ⟨wr.heap.size, 0, none⟩ = some (.int .i64 i.pl) ∧ W.cell? ⟨wr.heap.size, 1, none⟩ = some (.int .i64 i.op) ∧ W.cell? ⟨wr.heap.size, 2, none⟩ = some (.int .i64 i.a) ∧ W.cell? ⟨wr.heap.size, 3, none⟩ = some (.int .i64 i.b)) (first | exact hS2.out | exact hS3.out _ (by assumption))
                (first
                  | (go_at_call 33; refine gR.out.mono ?_; rintro e w3 ⟨rfl, b3⟩))
              have hb3 := HBL.out.trans ((below_drewN (Below.refl _ w2) 1).trans b3 |>.mono HBL.out.size)
              go_wp2
              go_ret2
              exact ⟨hb3, _, rfl, World.ownsRow_nil _ _ _ _⟩
            · clear hne
              go_wp2_with fail
              go_region_held3 (fun W => W.cell? ⟨wr.heap.size, 0, none⟩ = some (.int .i64 i.pl) ∧ W.cell? ⟨wr.heap.size, 1, none⟩ = some (.int .i64 i.op) ∧ W.cell? ⟨wr.heap.size, 2, none⟩ = some (.int .i64 i.a) ∧ W.cell? ⟨wr.heap.size, 3, none⟩ = some (.int .i64 i.b)) (first | exact hS2.out | exact hS3.out _ (by assumption))
                (first
                  | (go_at_call 33; refine gR.out.mono ?_; rintro e w3 ⟨rfl, b3⟩))
              have hb3 := HBL.out.trans ((below_drewN (Below.refl _ w2) 1).trans b3 |>.mono HBL.out.size)
              go_wp2
              go_ret2
              exact ⟨hb3, _, rfl, World.ownsRow_nil _ _ _ _⟩
        · rw [if_pos hpl] at hz
          obtain ⟨_, rfl⟩ := hz
          have hpl' : (i.pl == (out.length : Int)) = false := by simpa using hpl
          go_wp2_with fail
          refine (gS.out _).mono ?_
          rintro e w1 ⟨rfl, hww⟩; cases hww
          go_wp2
          go_ret2
          exact ⟨HB.out.alloc HB.out.size _, _, rfl, World.ownsRow_nil _ _ _ _⟩
    · have hlt' : ¬ (k : Int) < (l.length : Int) := by omega
      have hz := HZ.out.2
      rw [List.drop_eq_nil_of_le (by omega)] at hz
      unfold encL at hz
      have HB := hidIt hb
      have HO := hidIt ho
      clear HZ hb ho HV
      by_cases hbig : 1024 < out.length
      · have hb' : (1024 : Int) < (out.length : Int) := by omega
        rw [if_pos hbig] at hz
        subst hz
        go_wp2
        go_ret2
        exact ⟨HB.out, _, rfl, World.ownsRow_nil _ _ _ _⟩
      · have hb' : ¬ (1024 : Int) < (out.length : Int) := by omega
        rw [if_neg hbig] at hz
        subst hz
        go_wp2
        go_ret2
        exact ⟨HB.out, _, rfl, HO.out⟩
end Go.Proofs.Ytcmneinhcfejhaa
