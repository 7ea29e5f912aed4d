/- Texts E RE RN MW HNa D. -/
import Derived.Test.YtccbgdbipihoaaaGreatBw06
import Derived.Test.YtccbgdbipihoaaaGreatBw07
import Derived.Test.YtccbgdbipihoaaaGreatBw05
import Derived.Test.YtccbgdbipihoaaaGreatBw04
import Derived.Test.YtccbgdbipihoaaaGreatProg
namespace Go.Proofs.YtccbgdbipihoaaaGreat
open Go.RowKit
theorem enc_step (i : IN) (l : List IN) (out : List Int) : encL (i :: l) out = if kd i.op = 0 then ([], 15) else if i.pl ≠ (out.length : Int) then ([], 16) else if fitsB i = false then ([], 1) else encL l (out ++ oneB i) := rfl
theorem enc_bytes : ∀ (l : List IN) (out : List Int), AllBytes out → AllBytes (encL l out).1
  | [], out, h => by
    unfold encL
    split
    · exact AllBytes.nil
    · exact h
  | i :: l, out, h => by
    rw [enc_step]
    split
    · exact AllBytes.nil
    · rename_i hk
      split
      · exact AllBytes.nil
      · split
        · exact AllBytes.nil
        · exact enc_bytes l _ (h.append (one_bytes i hk))
theorem View.from {w : World} {g off c p : Nat} {l : List Int} (h : View w (.slice (some ⟨g, off, none⟩) l.length c) l) (hp : p ≤ l.length) : View w (.slice (some ⟨g, off + p, none⟩) (l.length - p) (c - p)) (l.drop p) := by
  obtain ⟨ao', cap, e, hc, hm, hy, hl⟩ := h
  cases e
  refine ⟨_, c - p, by rw [List.length_drop], by rw [List.length_drop]; omega, by omega, fun x hx => hy x (List.mem_of_mem_drop hx), ?_⟩
  rcases hl with rfl | ⟨g', off', e, hl⟩
  · exact .inl (by simp)
  · cases e
    refine .inr ⟨g, off + p, rfl, fun j x hj => ?_⟩
    rw [List.getElem?_drop] at hj
    rw [Nat.add_assoc]
    exact hl (p + j) x hj
end Go.Proofs.YtccbgdbipihoaaaGreat
namespace Go.Proofs.YtccbgdbipihoaaaGreat
open Go.RowKit
set_option maxRecDepth 8000 in
set_option maxHeartbeats 4000000 in
theorem rencode_any (hN : NameC) (v : Value) (l : List IN) (w : World) (hv : IView w v l) (hlen : l.length ≤ 400) :
    Calls Tryz.prog 124 #[v] w fun e w' => Below w.heap.size w w' ∧ ∃ v', e = .returned (.tuple #[v', .int .i64 (encL l []).2]) ∧ w'.ownsRow w.heap.size 5 1 v' (encL l []).1.length (bcells (encL l []).1) := by
  have HV := hidIt hv
  generalize hZ : encL l [] = Z at *
  have HZ := hidIt hZ
  have HNM := hidIt hN
  clear hZ hN
  obtain ⟨ao, cap, rfl, hc, hm, hl⟩ := hv
  unfold maxLen at hm
  go_enter Tryz.func124, Tryz.ntmps124
  go_wp2
  go_loopw [4, 5] (fun b ix wr => ∃ (k : Nat) (out : List Int), ix = .int .i64 (k : Int) ∧ k ≤ l.length ∧ out.length ≤ 3 * k ∧ Hid (AllBytes out ∧ encL (l.drop k) out = Z) ∧ wr.ownsRow w.heap.size 5 1 b out.length (bcells out) ∧ Below w.heap.size w wr) (fun _ ix _ => l.length - (intOf ix).toNat)
  case atStart => exact ⟨0, [], rfl, Nat.zero_le _, Nat.zero_le _, ⟨AllBytes.nil, HZ.out⟩, World.ownsRow_nil _ _ _ _, Below.refl _ _⟩
  case round =>
    clear HZ
    obtain ⟨k, out, rfl, hk, hout, HZ, ho, hb⟩ := hrel
    obtain ⟨aob, capb, rfl⟩ := own_slice ho
    by_cases hlt : k < l.length
    · have hlt' : (k : Int) < (l.length : Int) := by omega
      obtain ⟨i, hi⟩ : ∃ i, l[k]? = some i := ⟨l[k], List.getElem?_eq_getElem hlt⟩
      have HIV := hidIt (HV.out.below hb)
      obtain ⟨g, off, rfl, hI⟩ := HIV.out.row hi
      have HIA := hidIt hI
      obtain ⟨i0, i1, i2, i3⟩ := hI
      have hd : l.drop k = i :: l.drop (k + 1) := by
        rw [List.drop_eq_getElem_cons hlt]
        congr 1
        rw [List.getElem?_eq_getElem hlt] at hi; exact Option.some.inj hi
      have HZ1 : Hid (AllBytes out ∧ (if kd i.op = 0 then ([], 15) else if i.pl ≠ (out.length : Int) then ([], 16) else if fitsB i = false then ([], 1) else encL (l.drop (k + 1)) (out ++ oneB i)) = Z) := by
        have h := HZ.out
        rw [hd, enc_step] at h
        exact h
      have HB := hidIt hb
      have HO := hidIt ho
      have gS := hidIt (rsize HNM.out i.op wr)
      have hz0 := sz_zero i.op
      clear HZ hd hb ho hi HIV
      go_wp2_with fail
      refine gS.out.mono ?_
      rintro e w1 ⟨rfl, b1⟩
      have HB1 := hidIt (HB.out.trans (b1.mono HB.out.size))
      have HO1 := hidIt (own_below HO.out b1)
      have HIA1 := hidIt (HIA.out.below b1)
      clear gS b1 HIA HO HB i0 i1 i2 i3
      obtain ⟨j0, j1, j2, j3⟩ := id HIA1.out
      by_cases hk0 : kd i.op = 0
      · rw [hz0.2 hk0]
        have hz := HZ1.out.2
        rw [if_pos hk0] at hz
        subst hz
        clear HZ1 hz0 HV
        go_wp2
        go_ret2
        exact ⟨HB1.out, _, rfl, World.ownsRow_nil _ _ _ _⟩
      · have hz := HZ1.out
        rw [if_neg hk0] at hz
        have hsz : sz i.op ≠ 0 := fun h => hk0 (hz0.1 h)
        have HSL := hidIt (sz_le i.op)
        have HL1 := hidIt (one_len i hk0)
        generalize sz i.op = s at *
        have s0 : ((s : Int) == 0) = false := by simpa using hsz
        clear HZ1 hz0
        by_cases hpl : i.pl = (out.length : Int)
        · rw [if_neg (by simpa using hpl)] at hz
          have HZ2 := hidIt hz
          clear hz
          have hpl' : (i.pl == (out.length : Int)) = true := by simpa using hpl
          have GO := hidIt (rone HNM.out i hk0 (by omega) (by omega) w1)
          have HF := hidIt (fitsB_iff i)
          generalize hfb : fitsB i = fb at *
          clear hpl
          go_wp2_with fail
          refine GO.out.mono ?_
          rintro e w2 ⟨b2, aor, nr, cr, rfl, hown⟩
          have HB2 := hidIt (HB1.out.trans (b2.mono HB1.out.size))
          have HO2 := hidIt (own_below HO1.out b2)
          clear GO b2 HIA1 j0 j1 j2 j3 HB1
          cases fb with
          | true =>
            have hr := hown rfl
            have hz := HZ2.out
            rw [if_neg (by decide)] at hz
            have HZ3 := hidIt hz
            have hab := one_bytes i hk0
            have VR := View.of_own hr hab
            have zs := HB2.out.size
            have h3 := HSL.out
            have h4 := HL1.out
            have hnr : nr = s := by
              obtain ⟨_, _, e⟩ := own_slice hr
              cases e
              exact h4
            subst hnr
            clear hz HZ2 hown HF hfb hr
            have O2 := HO2.out
            go_wp2_with (at_builtin; refine wpList_append_view rfl _ _ rfl w.heap.size _ _ _ _ (oneB i) rfl O2 rfl VR (by omega) zs ?_; intro v3 w3 ho3 st3; obtain ⟨ao3, cap3, rfl⟩ := own_slice ho3; have HS3 := hidIt st3; have HO3 := hidIt ho3; clear st3 ho3 VR O2)
            have O3 := HO3.out
            have hb3 := HB2.out.trans (HS3.out.below zs (fun k hk => (HO2.out.lt k hk).1))
            exact ⟨⟨k + 1, out ++ oneB i, by go_num, by omega, by rw [List.length_append, h4]; omega, ⟨HZ3.out.1.append hab, HZ3.out.2⟩, by rw [bcells_append, List.length_append]; rw [h4] at O3 ⊢; exact O3, hb3⟩, by simp [intOf]; omega⟩
          | false =>
            have hz := HZ2.out.2
            rw [if_pos rfl] at hz
            subst hz
            clear HZ2 hown HF hfb
            go_wp2
            go_ret2
            exact ⟨HB2.out, _, rfl, World.ownsRow_nil _ _ _ _⟩
        · rw [if_pos hpl] at hz
          obtain ⟨_, rfl⟩ := hz
          have hpl' : (i.pl == (out.length : Int)) = false := by simpa using hpl
          go_wp2
          go_ret2
          exact ⟨HB1.out, _, rfl, World.ownsRow_nil _ _ _ _⟩
    · have hlt' : ¬ (k : Int) < (l.length : Int) := by omega
      have hz := HZ.out.2
      rw [List.drop_eq_nil_of_le (by omega)] at hz
      unfold encL at hz
      have HB := hidIt hb
      have HO := hidIt ho
      clear HZ hb ho HV
      by_cases hbig : 1024 < out.length
      · have hb' : (1024 : Int) < (out.length : Int) := by omega
        rw [if_pos hbig] at hz
        subst hz
        go_wp2
        go_ret2
        exact ⟨HB.out, _, rfl, World.ownsRow_nil _ _ _ _⟩
      · have hb' : ¬ (1024 : Int) < (out.length : Int) := by omega
        rw [if_neg hbig] at hz
        subst hz
        go_wp2
        go_ret2
        exact ⟨HB.out, _, rfl, HO.out⟩
end Go.Proofs.YtccbgdbipihoaaaGreat
namespace Go.Proofs.YtccbgdbipihoaaaGreat
open Go.RowKit
theorem wp_table {P : Program} {w w' : World} {o : Oper} {a : Act} {K : Act → World → Prop} {Q : Exit → Act → World → Prop} (t n : Nat) (parts : Array (Nat × Operand)) (hop : o.op = .buildSlice t n parts)
    (ps : Array (Nat × Value)) (hp : (parts.map fun (i, x) => (i, a.eval x)) = ps) {v : Value} (hrun : (Instr.buildSlice t n ps).run P w = .ok v w') (h : K (a.put o.dst v) w') : Oper.wp P o a w K Q := by
  unfold Oper.wp
  simp only [execOp, hop, hp, Sem.run_bind, hrun, Result.andThen_ok, Sem.run_pure]
  exact h
set_option maxRecDepth 20000 in
set_option maxHeartbeats 8000000 in
theorem rname5 (op : Int) (w : World) : Calls Tryz.prog 148 #[.int .i64 op] w fun e w' => e = .returned (.string (nameO op)) ∧ Below w.heap.size w w' := by
  have HT : Hid ((w.alloc tab5).heap[w.heap.size]? = some tab5) := heap_alloc_new _ _
  have HB : Hid (Below w.heap.size w (w.alloc tab5)) := r5_alloc _ _
  have HL := hidIt names_len
  have HF := hidIt (fun (j : Nat) (p : Int × ByteArray) hp h hn => find_at (op := op) (j := j) (p := p) hp h hn)
  have HZ := hidIt (fun hn => find_no (op := op) hn)
  have HC := hidIt (fun (j : Nat) (p : Int × ByteArray) hp => tab_cell HT.out (j := j) (p := p) hp)
  generalize nameO op = res at *
  have HR := hidIt (run_tab5 w)
  generalize w.alloc tab5 = wt at *
  go_enter Tryz.func148, Tryz.ntmps148
  go_wp2
  refine wp_table 192 71 _ rfl parts5 (by first | (rw [List.map_toArray]; rfl) | kernel_rfl) HR.out ?_
  clear HR
  go_wp2
  go_loopw [4] (fun i wr => ∃ j : Nat, j ≤ 71 ∧ i = .int .i64 (j : Int) ∧ wr = wt ∧ Hid (∀ q ∈ names5.take j, q.1 ≠ op)) (fun i _ => 71 - (intOf i).toNat)
  case atStart => exact ⟨0, by omega, rfl, rfl, fun q hq => by simp at hq⟩
  case round =>
    obtain ⟨j, hj, rfl, rfl, HQ⟩ := hrel
    by_cases hlt : j < 71
    · have hlt' : (j : Int) < 71 := by omega
      obtain ⟨p, hp⟩ : ∃ p, names5[j]? = some p := ⟨_, List.getElem?_eq_getElem (by rw [HL.out]; exact hlt)⟩
      obtain ⟨c0, c1⟩ := HC.out j p hp
      by_cases he : p.1 = op
      · have HE := hidIt (HF.out j p hp he HQ.out)
        have he' : (p.1 == op) = true := by simpa using he
        clear HF HZ HC HQ hp he
        go_wp2
        go_ret
        rw [HE.out]
        exact ⟨rfl, HB.out⟩
      · have he' : (p.1 == op) = false := by simpa using he
        have HQ2 : Hid (∀ q ∈ names5.take (j + 1), q.1 ≠ op) := by
          intro q hq
          rw [List.take_add_one, hp] at hq
          rcases List.mem_append.1 hq with h | h
          · exact HQ.out q h
          · simp at h; subst h; exact he
        clear HF HZ HC HQ hp he
        go_wp2
        exact ⟨⟨j + 1, by omega, by go_num, (by first | rfl | trivial), HQ2.out⟩, by simp [intOf]; omega⟩
    · have hlt' : ¬ (j : Int) < 71 := by omega
      have hE := HZ.out (fun q hq => HQ.out q (by rw [List.take_of_length_le (by rw [HL.out]; omega)]; exact hq))
      have HE := hidIt hE
      clear HF HZ HC HQ hE
      go_wp2
      go_ret
      rw [HE.out]
      exact ⟨rfl, HB.out⟩
end Go.Proofs.YtccbgdbipihoaaaGreat
namespace Go.Proofs.YtccbgdbipihoaaaGreat.M
open Go.RowKit

def plc : List LN → Int → List Int → List Int
  | [], _, ps => ps
  | x :: r, p, ps => if 0 ≤ x.hr then plc r p (ps.set x.hr.toNat p) else plc r (p + (sz x.op : Nat)) ps
def placesZ (σ : SG) : List Int := plc σ.ls 0 (List.replicate σ.labels 0)
def cod (ps : List Int) : List LN → Int → List IN
  | [], _ => []
  | x :: r, p => if 0 ≤ x.hr then cod ps r p else ⟨p, x.op, if 0 ≤ x.lb then (ps[x.lb.toNat]?).getD 0 else x.a, x.b⟩ :: cod ps r (p + (sz x.op : Nat))
def codeZ (σ : SG) : List IN := cod (placesZ σ) σ.ls 0
def fra (ts : List Int) : List LN → Int → List (Int × Bool) → List (Int × Bool)
  | [], _, fs => fs
  | x :: r, p, fs => if 0 ≤ x.hr then fra ts r p (if (fs[fs.length - 1]?).map (·.1) = some p then fs else fs ++ [(p, isIn ts x.hr)]) else fra ts r (p + (sz x.op : Nat)) fs
def framesZ (σ : SG) : List (Int × Bool) := fra σ.ts σ.ls 0 []
theorem plc_cons (x : LN) (r : List LN) (p : Int) (ps : List Int) : plc (x :: r) p ps = if 0 ≤ x.hr then plc r p (ps.set x.hr.toNat p) else plc r (p + (sz x.op : Nat)) ps := rfl
theorem cod_cons (ps : List Int) (x : LN) (r : List LN) (p : Int) : cod ps (x :: r) p = if 0 ≤ x.hr then cod ps r p else ⟨p, x.op, if 0 ≤ x.lb then (ps[x.lb.toNat]?).getD 0 else x.a, x.b⟩ :: cod ps r (p + (sz x.op : Nat)) := rfl
theorem fra_cons (ts : List Int) (x : LN) (r : List LN) (p : Int) (fs : List (Int × Bool)) : fra ts (x :: r) p fs = if 0 ≤ x.hr then fra ts r p (if (fs[fs.length - 1]?).map (·.1) = some p then fs else fs ++ [(p, isIn ts x.hr)]) else fra ts r (p + (sz x.op : Nat)) fs := rfl
def FR1 (pl : Bool) (w : World) (y : FM) (z : Int × Bool) : Prop := y.at_ = z.1 ∧ (∃ g, y.lc = .slice (some ⟨g, 0, none⟩) (kinds pl).length (kinds pl).length ∧ w.heap[g]? = some (.cells (kinds pl).toArray 9)) ∧ if z.2 then ∃ g, y.st = .slice (some ⟨g, 0, none⟩) 1 1 ∧ w.heap[g]? = some sThr else y.st = .slice none 0 0
def FRs (pl : Bool) (w : World) (fs : List FM) (zs : List (Int × Bool)) : Prop := fs.length = zs.length ∧ ∀ (j : Nat) y z, fs[j]? = some y → zs[j]? = some z → FR1 pl w y z
theorem FR1.same {pl : Bool} {w w' : World} {y : FM} {z : Int × Bool} (h : FR1 pl w y z) (hs : Same 9 w w') : FR1 pl w' y z := by
  obtain ⟨z1, z2⟩ := z
  obtain ⟨h1, ⟨g, h2, h3⟩, h4⟩ := h
  refine ⟨h1, ⟨g, h2, hs g _ h3⟩, ?_⟩
  cases z2
  · simpa using h4
  · simp only [if_true] at h4 ⊢
    obtain ⟨g, h5, h6⟩ := h4
    exact ⟨g, h5, hs g _ h6⟩
theorem FRs.same {pl : Bool} {w w' : World} {fs : List FM} {zs : List (Int × Bool)} (h : FRs pl w fs zs) (hs : Same 9 w w') : FRs pl w' fs zs := ⟨h.1, fun j y z h1 h2 => (h.2 j y z h1 h2).same hs⟩
theorem FRs.nil {pl : Bool} {w : World} : FRs pl w [] [] := ⟨rfl, fun j y z h => by simp at h⟩
theorem FRs.last {pl : Bool} {w : World} {fs : List FM} {zs : List (Int × Bool)} (h : FRs pl w fs zs) : (zs[zs.length - 1]?).map (·.1) = (fs[fs.length - 1]?).map (·.at_) := by
  rw [← h.1]
  rcases e : fs[fs.length - 1]? with _ | y
  · have : fs.length ≤ fs.length - 1 := List.getElem?_eq_none_iff.1 e
    rw [List.getElem?_eq_none (by rw [← h.1]; exact this)]; rfl
  · have hl := (List.getElem?_eq_some_iff.1 e).1
    obtain ⟨z, hz⟩ : ∃ z, zs[fs.length - 1]? = some z := ⟨zs[fs.length - 1]'(by rw [← h.1]; exact hl), List.getElem?_eq_getElem _⟩
    rw [hz]
    simp [(h.2 _ _ _ e hz).1]
theorem FRs.add {pl : Bool} {w : World} {fs : List FM} {zs : List (Int × Bool)} {y : FM} {z : Int × Bool} (h : FRs pl w fs zs) (h1 : FR1 pl w y z) : FRs pl w (fs ++ [y]) (zs ++ [z]) := by
  refine ⟨by simp [h.1], fun j a b ha hb => ?_⟩
  by_cases hj : j < fs.length
  · rw [List.getElem?_append_left hj] at ha
    rw [List.getElem?_append_left (by rw [← h.1]; exact hj)] at hb
    exact h.2 j a b ha hb
  · rw [List.getElem?_append_right (by omega)] at ha
    rw [List.getElem?_append_right (by rw [← h.1]; omega), ← h.1] at hb
    rcases e : j - fs.length with _ | m
    · rw [e] at ha hb
      simp at ha hb
      subst ha; subst hb; exact h1
    · rw [e] at ha; simp at ha
structure Refs (σ : SG) : Prop where
  ls : ∀ x ∈ σ.ls, x.lb < σ.labels ∧ x.hr < σ.labels
  hs : ∀ x ∈ σ.hs, (0 ≤ x.f ∧ x.f < σ.labels) ∧ (0 ≤ x.t ∧ x.t < σ.labels) ∧ 0 ≤ x.a ∧ x.a < σ.labels
theorem drop_at' {α : Type} {l : List α} {k : Nat} {x : α} (h : l[k]? = some x) : l.drop k = x :: l.drop (k + 1) := by
  obtain ⟨hk, e⟩ := List.getElem?_eq_some_iff.1 h
  subst e
  exact List.drop_eq_getElem_cons hk
theorem lcells_get : ∀ (l : List LN) (j : Nat) (x : LN) (i : Nat), l[j]? = some x → i < 6 → (lcells l)[j * 6 + i]? = (lrow x)[i]?
  | [], _, _, _, h, _ => by simp at h
  | y :: l, 0, x, i, h, hi => by simp at h; subst h; unfold lcells; rw [List.flatMap_cons, Nat.zero_mul, Nat.zero_add, List.getElem?_append_left (by simp [lrow]; omega)]
  | y :: l, j + 1, x, i, h, hi => by
    have := lcells_get l j x i (by simpa using h) hi
    unfold lcells at *
    rw [List.flatMap_cons, List.getElem?_append_right (by simp [lrow]; omega), show (j + 1) * 6 + i - (lrow y).length = j * 6 + i by simp [lrow]; omega]
    exact this
theorem own_line {w : World} {B : Nat} {v : Value} {l : List LN} (h : w.ownsRow B 154 6 v l.length (lcells l)) {j : Nat} {x : LN} (hj : l[j]? = some x) :
    ∃ g cap, v = .slice (some ⟨g, 0, none⟩) l.length cap ∧ g < w.heap.size ∧ w.cell? ⟨g, j * 6, none⟩ = some (.int .i64 x.pl) ∧ w.cell? ⟨g, j * 6 + 1, none⟩ = some (.int .i64 x.op) ∧ w.cell? ⟨g, j * 6 + 2, none⟩ = some (.int .i64 x.a) ∧ w.cell? ⟨g, j * 6 + 3, none⟩ = some (.int .i64 x.b) ∧ w.cell? ⟨g, j * 6 + 4, none⟩ = some (.int .i64 x.lb) ∧ w.cell? ⟨g, j * 6 + 5, none⟩ = some (.int .i64 x.hr) := by
  have hlt := (List.getElem?_eq_some_iff.1 hj).1
  rcases h.2 with ⟨rfl, h0⟩ | ⟨g, cap, cur, rfl, _, hg, h1, h2, h3, h4⟩
  · rw [h0] at hlt; simp at hlt
  · have e : ∀ i, i < 6 → cur[j * 6 + i]? = (lrow x)[i]? := by
      intro i hi
      rw [← lcells_get l j x i hj hi, ← h4, List.getElem?_take, if_pos (by omega), Array.getElem?_toList]
    exact ⟨g, cap, rfl, (Array.getElem?_eq_some_iff.1 hg).1, cell_row hg _ (e 0 (by decide)), cell_row hg _ (e 1 (by decide)), cell_row hg _ (e 2 (by decide)), cell_row hg _ (e 3 (by decide)), cell_row hg _ (e 4 (by decide)), cell_row hg _ (e 5 (by decide))⟩
end Go.Proofs.YtccbgdbipihoaaaGreat.M
namespace Go.Proofs.YtccbgdbipihoaaaGreat

structure HN where
  f : Int
  t : Int
  a : Int
  ty : ByteArray
def HN.val (x : HN) : Value := .agg #[.int .i64 x.f, .int .i64 x.t, .int .i64 x.a, .string x.ty]
def hrow (x : HN) : List Value := [.int .i64 x.f, .int .i64 x.t, .int .i64 x.a, .string x.ty]
end Go.Proofs.YtccbgdbipihoaaaGreat
namespace Go.Proofs.YtccbgdbipihoaaaGreat
open Go.RowKit
theorem IView.laid1 (w : World) (i : IN) : IView (w.alloc (.cells #[.int .i64 i.pl, .int .i64 i.op, .int .i64 i.a, .int .i64 i.b] 152)) (.slice (some ⟨w.heap.size, 0, none⟩) 1 1) [i] := by
  refine ⟨_, _, rfl, Nat.le_refl _, by unfold maxLen; omega, .inr ⟨_, _, rfl, fun j x hj => ?_⟩⟩
  match j, hj with
  | 0, hj => simp at hj; subst hj; exact box_at w i
  | j + 1, hj => simp at hj
end Go.Proofs.YtccbgdbipihoaaaGreat
