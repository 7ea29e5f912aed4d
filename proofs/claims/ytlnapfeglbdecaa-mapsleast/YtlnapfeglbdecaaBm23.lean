/- Texts MCl. -/
import Derived.Test.YtlnapfeglbdecaaBm22
namespace Go.Proofs.Ytlnapfeglbdecaa.M
open Go.RowKit

abbrev mcl_0 := (#[.string ⟨#[120]⟩, .string ⟨#[73]⟩, .bool false, .string ⟨#[110, 101, 120, 116]⟩, .string ⟨#[76, 65, 59]⟩, .bool false, .string ⟨#[115]⟩, .string ⟨#[73]⟩, .bool true, .string ⟨#[114]⟩, .string ⟨#[76, 65, 59]⟩, .bool true] : Array Value)
abbrev mcl_1 (a0) (a1) (a2) (a3) (a4) (a5) (a6) (a7) (a8) := (#[.string ⟨#[99, 97, 108, 99]⟩, .string ⟨#[40, 73, 73, 41, 73]⟩, .bool true, .bool false, .int .i64 16, .int .i64 4, .slice a0 a1 a2, .slice a3 a4 a5, .slice a6 a7 a8] : Array Value)
abbrev mcl_2 (a0) (a1) (a2) (a3) (a4) (a5) (a6) (a7) (a8) := (#[.string ⟨#[109, 97, 105, 110]⟩, .string ⟨#[40, 41, 86]⟩, .bool true, .bool false, .int .i64 16, .int .i64 10, .slice a0 a1 a2, .slice a3 a4 a5, .slice a6 a7 a8] : Array Value)
abbrev mcl_3 (a0) (a1) (a2) (a3) (a4) (a5) (a6) (a7) (a8) := (#[.string ⟨#[114, 117, 110]⟩, .string ⟨#[40, 41, 86]⟩, .bool false, .bool false, .int .i64 16, .int .i64 10, .slice a0 a1 a2, .slice a3 a4 a5, .slice a6 a7 a8] : Array Value)
abbrev mcl_4 (a0) (a1) (a2) (a3) (a4) (a5) (a6) (a7) (a8) := (#[.string ⟨#[103, 111]⟩, .string ⟨#[40, 73, 41, 73]⟩, .bool false, .bool false, .int .i64 16, .int .i64 10, .slice a0 a1 a2, .slice a3 a4 a5, .slice a6 a7 a8] : Array Value)
abbrev mcl_5 (a0) := (#[.string ⟨#[65]⟩, .string ⟨#[79, 98, 106, 101, 99, 116]⟩, .slice none 0 0, .slice (some ⟨a0, 0, none⟩) 4 4, .slice none 0 0] : Array Value)
abbrev mcl_6 := (#[.string ⟨#[121]⟩, .string ⟨#[73]⟩, .bool false, .string ⟨#[111, 116, 104, 101, 114]⟩, .string ⟨#[76, 65, 59]⟩, .bool false] : Array Value)
abbrev mcl_7 := (#[.string ⟨#[77, 97, 105, 110]⟩, .string ⟨#[79, 98, 106, 101, 99, 116]⟩, .slice none 0 0, .slice none 0 0, .slice none 0 0] : Array Value)
abbrev mcl_8 := (#[.string ⟨#[84]⟩, .string ⟨#[84, 104, 114, 101, 97, 100]⟩, .slice none 0 0, .slice none 0 0, .slice none 0 0] : Array Value)
abbrev mcl_9 (a0) := (#[.string ⟨#[66]⟩, .string ⟨#[65]⟩, .slice none 0 0, .slice (some ⟨a0, 0, none⟩) 2 2, .slice none 0 0] : Array Value)

theorem rec_start {w : World} {v : Value} {rl : List Int} (h : NV w.heap.size w.heap.size w v rl) : RecIs w.heap.size (w.alloc (.cells #[v, .int .i64 0] 60)) :=
  ⟨v, rl, 0, heap_alloc_new w _, (h.kq (Kq.of_below (below_alloc w _) (Nat.le_refl _))).mono (by simp), Nat.zero_le _⟩
theorem below_kq {pr : Nat} {w w0 w1 : World} (h : Below pr w w0) (hr : RecIs pr w0) (k : Kq w0.heap.size pr w0 w1) : Below pr w w1 :=
  ⟨k.os.trans h.os, k.tape.trans h.tape, k.output.trans h.output, Nat.le_trans h.size k.size, fun i hi => (k.block i (by have := hr.lt; omega) (by omega)).trans (h.block i hi)⟩
theorem grown_none {w w' : World} (h : w.grownBy w' none) : Below w.heap.size w w' := ⟨h.os, h.tape, h.output, h.size, fun k hk => h.block k hk (by simp)⟩
def Pres (b : Nat) (W W' : World) : Prop := (∀ T, T ≠ 60 → T ≠ 43 → T ≠ 38 → Same T W W') ∧ ∀ g cur, b ≤ g → W.heap[g]? = some (.cells cur 38 (0, 0)) → W'.heap[g]? = some (.cells cur 38 (0, 0))
theorem Pres.trans {b : Nat} {w0 w1 w2 : World} (h : Pres b w0 w1) (k : Pres b w1 w2) : Pres b w0 w2 := ⟨fun T a c d => (h.1 T a c d).trans (k.1 T a c d), fun g cur hb hg => k.2 g cur hb (h.2 g cur hb hg)⟩
theorem Pres.below {b : Nat} {w0 w1 : World} (h : Below w0.heap.size w0 w1) : Pres b w0 w1 := ⟨fun _ _ _ _ => Same.of_below h, fun g cur _ hg => Same.of_below h g cur hg⟩
theorem Pres.body {b pr : Nat} {w0 w1 : World} (hr : RecIs pr w0) (h : Kq w0.heap.size pr w0 w1) : Pres b w0 w1 := ⟨fun _ a _ _ => hr.same h a, fun g cur _ hg => hr.same h (by decide) g cur hg⟩
theorem Pres.set {b k o : Nat} {w0 : World} {cs : Array Value} {u : Value} (h : w0.heap[k]? = some (.cells cs 43 (0, 0))) : Pres b w0 (w0.setCell ⟨k, o, none⟩ u) := ⟨fun _ _ c _ => Same.of_set h c, fun g cur _ hg => Same.of_set h (by decide) g cur hg⟩
theorem Pres.row {b k : Nat} {w0 : World} {cs old : Array Value} (hk : w0.heap[k]? = some (.cells old 38 (0, 0))) (hb : k < b) : Pres b w0 (w0.setRow k cs) :=
  ⟨fun _ _ _ d g cur hg => (setRow_other _ _ _ _ (other_block hg hk d)).trans hg, fun g cur hg h => (setRow_other _ _ _ _ (by omega)).trans h⟩
theorem CLies.pres {w w' : World} {b : Nat} {c : Array Value} {nm sup : ByteArray} {fs : List (ByteArray × ByteArray × Bool)} {pool : List CD} {ms : List (BK × SG)} {b0 : Nat} (h : CLies w b c nm sup fs pool ms b0) (p : Pres b w w') : CLies w' b c nm sup fs pool ms b0 := by
  obtain ⟨vp, vf, vm, e, ⟨h1, h1'⟩, h2, rows, h3, h4, h5⟩ := h
  refine ⟨vp, vf, vm, e, ⟨own_same h1 (p.1 _ (by decide) (by decide) (by decide)), h1'⟩, ?_, rows, h3, ?_, fun j m r hm hr => (h5 j m r hm hr).same (p.1 _ (by decide) (by decide) (by decide)) (p.1 _ (by decide) (by decide) (by decide)) (p.1 _ (by decide) (by decide) (by decide)) (p.1 _ (by decide) (by decide) (by decide))⟩
  · rcases h2 with h2 | ⟨g, e, hg⟩
    · exact .inl h2
    · exact .inr ⟨g, e, p.1 _ (by decide) (by decide) (by decide) _ _ hg⟩
  · refine ⟨h4.1, ?_⟩
    rcases h4.2 with x | ⟨g, cap, cur, rfl, hB, hg, r⟩
    · exact .inl x
    · exact .inr ⟨g, cap, cur, rfl, hB, p.2 g cur hB hg, r⟩
theorem CLies.wk {w : World} {b b' : Nat} {c : Array Value} {nm sup : ByteArray} {fs : List (ByteArray × ByteArray × Bool)} {pool : List CD} {ms : List (BK × SG)} {b0 : Nat} (h : CLies w b c nm sup fs pool ms b0) (hb : b' ≤ b) : CLies w b' c nm sup fs pool ms b0 := by
  obtain ⟨vp, vf, vm, e, h1, h2, rows, h3, h4, h5⟩ := h
  exact ⟨vp, vf, vm, e, h1, h2, rows, h3, own_wk h4 hb, h5⟩
theorem below_row {B k : Nat} {w w' : World} {cs : Array Value} (hb : Below B w w') (hB : B ≤ k) : Below B w (w'.setRow k cs) := ⟨hb.os, hb.tape, hb.output, by simp [World.setRow]; exact hb.size, fun i hi => (setRow_other _ _ _ _ (by omega)).trans (hb.block i hi)⟩
theorem one9 {ys : List Value} (h : ys.all (·.oneCell') = true) : ∀ u ∈ ys, u.oneCell' = true := fun u hu => List.all_eq_true.1 h u hu
set_option maxRecDepth 8000 in
set_option maxHeartbeats 40000000 in
theorem classes_g (v : Value) (rl : List Int) (w : World) (hv : NV w.heap.size w.heap.size w v rl) : Calls Try.prog 9 #[v] w fun e w' => ClassesG w e w' := by
  obtain ⟨ao, cap, rfl⟩ : ∃ ao cap, v = .slice ao rl.length cap := by obtain ⟨ao, cap, e, _⟩ := hv; exact ⟨ao, cap, e⟩
  have HV := hidIt hv
  clear hv
  go_enter Try.func9, Try.ntmps9
  go_upto_region 3 with (fail)
  have HW : Hid (Below w.heap.size w (((w.alloc (.cells #[.slice ao rl.length cap, .int .i64 0] 60)).alloc (.cells mcl_0 62)).alloc (.cells (mcl_5 (w.heap.size + 1)) 43))) := ((below_alloc w _).alloc (below_alloc w _).size _).alloc (by simp; omega) _
  have HR0 : Hid (RecIs w.heap.size (((w.alloc (.cells #[.slice ao rl.length cap, .int .i64 0] 60)).alloc (.cells mcl_0 62)).alloc (.cells (mcl_5 (w.heap.size + 1)) 43))) := by
    have h0 := rec_start HV.out
    have h1 : RecIs w.heap.size ((w.alloc (.cells #[.slice ao rl.length cap, .int .i64 0] 60)).alloc (.cells mcl_0 62)) := h0.below (below_alloc _ _)
    exact h1.below (below_alloc _ _)
  have HF0 : Hid ((((w.alloc (.cells #[.slice ao rl.length cap, .int .i64 0] 60)).alloc (.cells mcl_0 62)).alloc (.cells (mcl_5 (w.heap.size + 1)) 43)).heap[w.heap.size + 1]? = some (.cells mcl_0 62 (0, 0))) := by
    show _ = _
    rw [(below_alloc _ _).block _ (by simp)]
    exact heap_new' (by simp)
  have HA0 : Hid ((((w.alloc (.cells #[.slice ao rl.length cap, .int .i64 0] 60)).alloc (.cells mcl_0 62)).alloc (.cells (mcl_5 (w.heap.size + 1)) 43)).heap[w.heap.size + 1 + 1]? = some (.cells (mcl_5 (w.heap.size + 1)) 43 (0, 0))) := heap_new' (by simp)
  generalize (((w.alloc (.cells #[.slice ao rl.length cap, .int .i64 0] 60)).alloc (.cells mcl_0 62)).alloc (.cells (mcl_5 (w.heap.size + 1)) 43)) = W0 at *
  have hgA : w.heap.size < w.heap.size + 1 + 1 := by omega
  generalize w.heap.size + 1 + 1 = gA at *
  generalize w.heap.size + 1 = gfA at *
  generalize hprE : w.heap.size = pr at *
  have HPR := hidIt hprE
  clear hprE HV
  have k2 := cell_row HA0.out 2 (v := .slice none 0 0) rfl
  have HBO := hidIt (body_go pr (.slice none 0 0) [] W0 HR0.out (own_empty _ _ _ _) (by simp) (fun x hx => by simp at hx))
  have hpA : pr ≤ W0.heap.size := Nat.le_of_lt HR0.out.lt
  go_upto_region 4 with (go_at_call 16; refine HBO.out.mono ?_; intro e wnA hq; obtain ⟨σA, acA, ncA, capcA, ahA, nhA, caphA, afA, nfA, capfA, aopA, cappA, hbd, he, hrec, hk, hpo, hml⟩ := BodyQ.parts (k := .go) hq; have he' : e = .returned (.tuple #[.agg (mcl_4 acA ncA capcA ahA nhA caphA afA nfA capfA), .slice aopA σA.pool.length cappA]) := he; subst he'; have HBDA := hidIt hbd; have HREA := hidIt hrec; have HKA := hidIt hk; have HPOA := hidIt hpo; have HMLA := hidIt hml; clear he hq hbd hrec hk hpo hml)
  have HBA := hidIt (below_alloc wnA (.cells (mcl_4 acA ncA capcA ahA nhA caphA afA nfA capfA) 38))
  have HMB := hidIt (heap_alloc_new wnA (.cells (mcl_4 acA ncA capcA ahA nhA caphA afA nfA capfA) 38))
  have HX0 := hidIt (Same.of_below HBA.out _ _ (HR0.out.same HKA.out (by decide) _ _ HA0.out))
  have HFA := hidIt (Same.of_below HBA.out _ _ (HR0.out.same HKA.out (by decide) _ _ HF0.out))
  have HPOA' := hidIt (And.intro (own_same HPOA.out.1 (Same.of_below HBA.out)) HPOA.out.2)
  have HMLA' := hidIt (HMLA.out.same (Same.of_below HBA.out) (Same.of_below HBA.out) (Same.of_below HBA.out) (Same.of_below HBA.out))
  have HR := hidIt (HREA.out.below HBA.out)
  have HB := hidIt ((below_kq HW.out HR0.out HKA.out).trans (HBA.out.mono (Nat.le_of_lt HREA.out.lt)))
  have hgm : pr < wnA.heap.size := HREA.out.lt
  clear HPOA HMLA k2 HBO HKA HREA HR0 HA0 HF0 HW
  have HPOA := HPOA'
  have HMLA := HMLA'
  clear HPOA' HMLA' HBA
  generalize wnA.alloc (.cells (mcl_4 acA ncA capcA ahA nhA caphA afA nfA capfA) 38) = WB at *
  generalize wnA.heap.size = gm at *
  have e2 := cell_row HX0.out 2 (v := .slice none 0 0) rfl
  have ef := frozen_row HX0.out
  go_upto_region 5 with (fail)
  have HX2 : Hid ((WB.setCell ⟨gA, 2, none⟩ (.slice aopA σA.pool.length cappA)).heap[gA]? = some (.cells #[.string ⟨#[65]⟩, .string ⟨#[79, 98, 106, 101, 99, 116]⟩, .slice aopA σA.pool.length cappA, .slice (some ⟨gfA, 0, none⟩) 4 4, .slice none 0 0] 43 (0, 0))) := by
    show _ = _
    rw [set_row HX0.out]; rfl
  have P2 := hidIt (Pres.set (b := gm + 1) (o := 2) (u := .slice aopA σA.pool.length cappA) HX0.out)
  have HMB2 := hidIt (Same.of_set (o := 2) (u := .slice aopA σA.pool.length cappA) HX0.out (by decide) _ _ HMB.out)
  have HR2 := hidIt (HR.out.other (k := gA) (o := 2) (u := .slice aopA σA.pool.length cappA) hgA)
  have HB2 := hidIt (below_set (o := 2) (u := .slice aopA σA.pool.length cappA) HB.out (Nat.le_of_lt hgA))
  generalize WB.setCell ⟨gA, 2, none⟩ (.slice aopA σA.pool.length cappA) = WC at *
  clear e2 ef HX0 HMB HR HB 
  have e4 := cell_row HX2.out 4 (v := .slice none 0 0) rfl
  have m0 := cell_row HMB2.out 0 rfl
  have m1 := cell_row HMB2.out 1 rfl
  have m2 := cell_row HMB2.out 2 rfl
  have m3 := cell_row HMB2.out 3 rfl
  have m4 := cell_row HMB2.out 4 rfl
  have m5 := cell_row HMB2.out 5 rfl
  have m6 := cell_row HMB2.out 6 rfl
  have m7 := cell_row HMB2.out 7 rfl
  have m8 := cell_row HMB2.out 8 rfl
  have hmz := (Array.getElem?_eq_some_iff.1 HMB2.out).1
  go_upto_region 6 with (at_builtin; refine wpList_mappend rfl _ _ rfl (gm + 1) (.slice none 0 0) 0 [] (mcl_4 acA ncA capcA ahA nhA caphA afA nfA capfA).toList WC.heap.size 1 rfl rfl (own_empty _ _ _ _) (heap_alloc_new WC _) rfl (one9 rfl) (by omega) (by omega) (by omega) (by simp; omega) ?_; intro v5 w5 ho5 hg5; obtain ⟨ao5, cap5, rfl⟩ := own_slice ho5; have B5 := hidIt ((below_alloc WC _).trans ((grown_none hg5).mono (by simp))); have HO5 := hidIt ho5; have HX5 := hidIt (Same.of_below B5.out _ _ HX2.out); have e4' := cell_row HX5.out 4 (v := .slice none 0 0) rfl; have ef' := frozen_row HX5.out; clear ho5 hg5)
  have P5 := hidIt (Pres.below (b := gm + 1) B5.out)
  have P6 := hidIt (Pres.set (b := gm + 1) (o := 4) (u := .slice ao5 1 cap5) HX5.out)
  have HCA : Hid ((w5.setCell ⟨gA, 4, none⟩ (.slice ao5 1 cap5)).heap[gA]? = some (.cells #[.string ⟨#[65]⟩, .string ⟨#[79, 98, 106, 101, 99, 116]⟩, .slice aopA σA.pool.length cappA, .slice (some ⟨gfA, 0, none⟩) 4 4, .slice ao5 1 cap5] 43 (0, 0))) := by
    show _ = _
    rw [set_row HX5.out]; rfl
  have HMB := hidIt (Same.of_set (o := 4) (u := .slice ao5 1 cap5) HX5.out (by decide) _ _ (Same.of_below B5.out _ _ HMB2.out))
  have HR := hidIt ((HR2.out.below B5.out).other (k := gA) (o := 4) (u := .slice ao5 1 cap5) hgA)
  have HB := hidIt (below_set (o := 4) (u := .slice ao5 1 cap5) (HB2.out.trans (B5.out.mono (by have := HR2.out.lt; omega))) (Nat.le_of_lt hgA))
  have P7 := hidIt ((P2.out.trans P5.out).trans P6.out)
  have HO6 := hidIt (own_same HO5.out (Same.of_set (o := 4) (u := .slice ao5 1 cap5) HX5.out (by decide)))
  have HLA : Hid (CLies (w5.setCell ⟨gA, 4, none⟩ (.slice ao5 1 cap5)) (gm + 1) #[.string ⟨#[65]⟩, .string ⟨#[79, 98, 106, 101, 99, 116]⟩, .slice aopA σA.pool.length cappA, .slice (some ⟨gfA, 0, none⟩) 4 4, .slice ao5 1 cap5] ⟨#[65]⟩ ⟨#[79, 98, 106, 101, 99, 116]⟩ fieldsA σA.pool [(.go, σA)] pr) := by
    refine ⟨_, _, _, rfl, ⟨own_same HPOA.out.1 (P7.out.1 _ (by decide) (by decide) (by decide)), HPOA.out.2⟩, ?_, [(mcl_4 acA ncA capcA ahA nhA caphA afA nfA capfA)], rfl, ?_, ?_⟩
    · exact Or.inr ⟨gfA, rfl, P7.out.1 _ (by decide) (by decide) (by decide) _ _ HFA.out⟩
    · exact HO6.out
    · intro j m r hm hr
      rcases j with _ | j
      · simp at hm hr; subst hm; subst hr
        exact (HMLA.out.wk hpA).same (P7.out.1 _ (by decide) (by decide) (by decide)) (P7.out.1 _ (by decide) (by decide) (by decide)) (P7.out.1 _ (by decide) (by decide) (by decide)) (P7.out.1 _ (by decide) (by decide) (by decide))
      · simp at hm
  generalize w5.setCell ⟨gA, 4, none⟩ (.slice ao5 1 cap5) = WA at *
  clear e4 e4' ef' m0 m1 m2 m3 m4 m5 m6 m7 m8 hmz B5 HO5 HO6 HX2 HX5 HMB2 HR2 HB2 P2 P5 P6 P7 HPOA HMLA 
  go_upto_region 7 with (fail)
  have BE : Hid (Below WA.heap.size WA ((WA.alloc (.cells mcl_6 62)).alloc (.cells (mcl_9 WA.heap.size) 43))) := (below_alloc WA _).alloc (below_alloc WA _).size _
  have HFB : Hid (((WA.alloc (.cells mcl_6 62)).alloc (.cells (mcl_9 WA.heap.size) 43)).heap[WA.heap.size]? = some (.cells mcl_6 62 (0, 0))) := by
    show _ = _
    rw [(below_alloc _ _).block _ (by simp)]
    exact heap_alloc_new WA _
  have HX0 : Hid (((WA.alloc (.cells mcl_6 62)).alloc (.cells (mcl_9 WA.heap.size) 43)).heap[WA.heap.size + 1]? = some (.cells (mcl_9 WA.heap.size) 43 (0, 0))) := heap_new' (by simp)
  have HCA' := hidIt (Same.of_below BE.out _ _ HCA.out)
  have HLA' := hidIt (HLA.out.pres (Pres.below BE.out))
  have hAB : gA < WA.heap.size + 1 := by have := (Array.getElem?_eq_some_iff.1 HCA.out).1; omega
  have HMB' := hidIt (Same.of_below BE.out _ _ HMB.out)
  have HR' := hidIt (HR.out.below BE.out)
  have hgB : pr < WA.heap.size + 1 := by have := HR.out.lt; omega
  have HB' := hidIt (HB.out.trans (BE.out.mono (Nat.le_of_lt HR.out.lt)))
  clear HMB HR HB HCA HLA
  have HMB := HMB'
  have HR := HR'
  have HB := HB'
  clear HMB' HR' HB' BE
  have HCA := HCA'
  have HLA := HLA'
  clear HCA' HLA'
  generalize ((WA.alloc (.cells mcl_6 62)).alloc (.cells (mcl_9 WA.heap.size) 43)) = WEB at *
  generalize WA.heap.size + 1 = gB at *
  generalize WA.heap.size = gfB at *
  have TK := hidIt (take_rec pr 2 WEB HR.out (by omega) (by omega))
  go_wp2_with fail
  refine TK.out.mono ?_
  rintro e wt ⟨⟨x, hx, rfl⟩, hrt, hkt, -⟩
  have HR' := hidIt hrt
  have PT := hidIt (Pres.body (b := gm + 1) HR.out hkt)
  have ST : Hid (∀ T, T ≠ 60 → Same T WEB wt) := fun T hT => HR.out.same hkt hT
  have HB' := hidIt (below_kq HB.out HR.out hkt)
  have HX0' := hidIt (ST.out _ (by decide) _ _ HX0.out)
  have HMB' := hidIt (ST.out _ (by decide) _ _ HMB.out)
  have HFB' := hidIt (ST.out _ (by decide) _ _ HFB.out)
  have HCA' := hidIt (ST.out _ (by decide) _ _ HCA.out)
  have HLA' := hidIt (HLA.out.pres PT.out)
  clear TK hrt hkt HR HB HX0 HMB HFB HCA HLA PT ST
  have HR := HR'
  have HB := HB'
  have HX0 := HX0'
  have HMB := HMB'
  have HFB := HFB'
  have HCA := HCA'
  have HLA := HLA'
  clear HR' HB' HX0' HMB' HFB' HCA' HLA'
  have hx2 : x = 0 ∨ x = 1 := by omega
  clear hx
  rcases hx2 with rfl | rfl
  · have hdum := True.intro
    have k2 := cell_row HX0.out 2 (v := .slice none 0 0) rfl
    have HBO := hidIt (body_go pr (.slice none 0 0) [] wt HR.out (own_empty _ _ _ _) (by simp) (fun x hx => by simp at hx))
    go_upto_region 9 with (first | (go_at_call 16; refine HBO.out.mono ?_; intro e wnB hq; obtain ⟨σB, acB, ncB, capcB, ahB, nhB, caphB, afB, nfB, capfB, aopB, cappB, hbd, he, hrec, hk, hpo, hml⟩ := BodyQ.parts (k := .go) hq; have he' : e = .returned (.tuple #[.agg (mcl_4 acB ncB capcB ahB nhB caphB afB nfB capfB), .slice aopB σB.pool.length cappB]) := he; subst he'; have HBDB := hidIt hbd; have HREB := hidIt hrec; have HKB := hidIt hk; have HPOB := hidIt hpo; have HMLB := hidIt hml; clear he hq hbd hrec hk hpo hml) | (refine wpList_store_row rfl 38 _ _ rfl gm (mcl_4 acB ncB capcB ahB nhB caphB afB nfB capfB) rfl rfl 38 _ (HR.out.same HKB.out (by decide) _ _ HMB.out) (by kernel_rfl) rfl (by simp [Value.oneCell']) ?_))
    have S1 : Hid (∀ T, T ≠ 60 → Same T wt wnB) := fun T hT => HR.out.same HKB.out hT
    have Y1 := hidIt (S1.out _ (by decide) _ _ HMB.out)
    have P1 := hidIt ((Pres.body (b := gm + 1) HR.out HKB.out).trans (Pres.row (cs := (mcl_4 acB ncB capcB ahB nhB caphB afB nfB capfB)) Y1.out (Nat.lt_succ_self _)))
    have P0 := hidIt (Pres.row (b := gm + 1) (cs := (mcl_4 acB ncB capcB ahB nhB caphB afB nfB capfB)) Y1.out (Nat.lt_succ_self _))
    have Z1 : Hid (∀ (g : Nat) (cur : Array Value), wnB.heap[g]? = some (.cells cur 43 (0, 0)) → (wnB.setRow gm (mcl_4 acB ncB capcB ahB nhB caphB afB nfB capfB)).heap[g]? = some (.cells cur 43 (0, 0))) := fun g cur hg => (setRow_other _ _ _ _ (other_block hg Y1.out (by decide))).trans hg
    have HX0' := hidIt (Z1.out _ _ (S1.out _ (by decide) _ _ HX0.out))
    have HMB' := hidIt (setRow_heap wnB gm _ (mcl_4 acB ncB capcB ahB nhB caphB afB nfB capfB) _ _ Y1.out)
    have HR' := hidIt (HREB.out.row (k := gm) (cs := (mcl_4 acB ncB capcB ahB nhB caphB afB nfB capfB)) hgm)
    have HB' := hidIt (below_row (cs := (mcl_4 acB ncB capcB ahB nhB caphB afB nfB capfB)) (below_kq HB.out HR.out HKB.out) (Nat.le_of_lt hgm))
    have HPOB' := hidIt (And.intro (own_same HPOB.out.1 (P0.out.1 _ (by decide) (by decide) (by decide))) HPOB.out.2)
    have HMLB' := hidIt (HMLB.out.same (P0.out.1 _ (by decide) (by decide) (by decide)) (P0.out.1 _ (by decide) (by decide) (by decide)) (P0.out.1 _ (by decide) (by decide) (by decide)) (P0.out.1 _ (by decide) (by decide) (by decide)))
    have HFB' := hidIt (P1.out.1 _ (by decide) (by decide) (by decide) _ _ HFB.out)
    have HCA' := hidIt (Z1.out _ _ (S1.out _ (by decide) _ _ HCA.out))
    have HLA' := hidIt (HLA.out.pres P1.out)
    clear k2 HBO S1 Y1 P1 P0 Z1 HKB HREB HX0 HMB HR HB HPOB HMLB HFB HCA HLA
    have HX0 := HX0'
    clear HX0'
    have HMB := HMB'
    clear HMB'
    have HR := HR'
    clear HR'
    have HB := HB'
    clear HB'
    have HPOB := HPOB'
    clear HPOB'
    have HMLB := HMLB'
    clear HMLB'
    have HFB := HFB'
    clear HFB'
    have HCA := HCA'
    clear HCA'
    have HLA := HLA'
    clear HLA'
    generalize wnB.setRow gm (mcl_4 acB ncB capcB ahB nhB caphB afB nfB capfB) = WB at *
    have e2 := cell_row HX0.out 2 (v := .slice none 0 0) rfl
    have ef := frozen_row HX0.out
    go_upto_region 10 with (fail)
    have HX2 : Hid ((WB.setCell ⟨gB, 2, none⟩ (.slice aopB σB.pool.length cappB)).heap[gB]? = some (.cells #[.string ⟨#[66]⟩, .string ⟨#[65]⟩, .slice aopB σB.pool.length cappB, .slice (some ⟨gfB, 0, none⟩) 2 2, .slice none 0 0] 43 (0, 0))) := by
      show _ = _
      rw [set_row HX0.out]; rfl
    have P2 := hidIt (Pres.set (b := gm + 1) (o := 2) (u := .slice aopB σB.pool.length cappB) HX0.out)
    have HMB2 := hidIt (Same.of_set (o := 2) (u := .slice aopB σB.pool.length cappB) HX0.out (by decide) _ _ HMB.out)
    have HR2 := hidIt (HR.out.other (k := gB) (o := 2) (u := .slice aopB σB.pool.length cappB) hgB)
    have HB2 := hidIt (below_set (o := 2) (u := .slice aopB σB.pool.length cappB) HB.out (Nat.le_of_lt hgB))
    have HCA2 := hidIt ((Below.heap_setCell WB ⟨gB, 2, none⟩ (.slice aopB σB.pool.length cappB) _ (by show gA ≠ gB; omega)).trans HCA.out)
    generalize WB.setCell ⟨gB, 2, none⟩ (.slice aopB σB.pool.length cappB) = WC at *
    clear e2 ef HX0 HMB HR HB HCA
    have e4 := cell_row HX2.out 4 (v := .slice none 0 0) rfl
    have m0 := cell_row HMB2.out 0 rfl
    have m1 := cell_row HMB2.out 1 rfl
    have m2 := cell_row HMB2.out 2 rfl
    have m3 := cell_row HMB2.out 3 rfl
    have m4 := cell_row HMB2.out 4 rfl
    have m5 := cell_row HMB2.out 5 rfl
    have m6 := cell_row HMB2.out 6 rfl
    have m7 := cell_row HMB2.out 7 rfl
    have m8 := cell_row HMB2.out 8 rfl
    have hmz := (Array.getElem?_eq_some_iff.1 HMB2.out).1
    go_upto_region 11 with (at_builtin; refine wpList_mappend rfl _ _ rfl (gm + 1) (.slice none 0 0) 0 [] (mcl_4 acB ncB capcB ahB nhB caphB afB nfB capfB).toList WC.heap.size 1 rfl rfl (own_empty _ _ _ _) (heap_alloc_new WC _) rfl (one9 rfl) (by omega) (by omega) (by omega) (by simp; omega) ?_; intro v5 w5 ho5 hg5; obtain ⟨ao5, cap5, rfl⟩ := own_slice ho5; have B5 := hidIt ((below_alloc WC _).trans ((grown_none hg5).mono (by simp))); have HO5 := hidIt ho5; have HX5 := hidIt (Same.of_below B5.out _ _ HX2.out); have e4' := cell_row HX5.out 4 (v := .slice none 0 0) rfl; have ef' := frozen_row HX5.out; clear ho5 hg5)
    have P5 := hidIt (Pres.below (b := gm + 1) B5.out)
    have P6 := hidIt (Pres.set (b := gm + 1) (o := 4) (u := .slice ao5 1 cap5) HX5.out)
    have HCB : Hid ((w5.setCell ⟨gB, 4, none⟩ (.slice ao5 1 cap5)).heap[gB]? = some (.cells #[.string ⟨#[66]⟩, .string ⟨#[65]⟩, .slice aopB σB.pool.length cappB, .slice (some ⟨gfB, 0, none⟩) 2 2, .slice ao5 1 cap5] 43 (0, 0))) := by
      show _ = _
      rw [set_row HX5.out]; rfl
    have HMB := hidIt (Same.of_set (o := 4) (u := .slice ao5 1 cap5) HX5.out (by decide) _ _ (Same.of_below B5.out _ _ HMB2.out))
    have HR := hidIt ((HR2.out.below B5.out).other (k := gB) (o := 4) (u := .slice ao5 1 cap5) hgB)
    have HB := hidIt (below_set (o := 4) (u := .slice ao5 1 cap5) (HB2.out.trans (B5.out.mono (by have := HR2.out.lt; omega))) (Nat.le_of_lt hgB))
    have P7 := hidIt ((P2.out.trans P5.out).trans P6.out)
    have HO6 := hidIt (own_same HO5.out (Same.of_set (o := 4) (u := .slice ao5 1 cap5) HX5.out (by decide)))
    have HLB : Hid (CLies (w5.setCell ⟨gB, 4, none⟩ (.slice ao5 1 cap5)) (gm + 1) #[.string ⟨#[66]⟩, .string ⟨#[65]⟩, .slice aopB σB.pool.length cappB, .slice (some ⟨gfB, 0, none⟩) 2 2, .slice ao5 1 cap5] ⟨#[66]⟩ ⟨#[65]⟩ fieldsB σB.pool [(.go, σB)]) := by
      refine ⟨_, _, _, rfl, ⟨own_same HPOB.out.1 (P7.out.1 _ (by decide) (by decide) (by decide)), HPOB.out.2⟩, ?_, [(mcl_4 acB ncB capcB ahB nhB caphB afB nfB capfB)], rfl, ?_, ?_⟩
      · exact Or.inr ⟨gfB, rfl, P7.out.1 _ (by decide) (by decide) (by decide) _ _ HFB.out⟩
      · exact HO6.out
      · intro j m r hm hr
        rcases j with _ | j
        · simp at hm hr; subst hm; subst hr
          exact (HMLB.out.wk (Nat.zero_le _)).same (P7.out.1 _ (by decide) (by decide) (by decide)) (P7.out.1 _ (by decide) (by decide) (by decide)) (P7.out.1 _ (by decide) (by decide) (by decide)) (P7.out.1 _ (by decide) (by decide) (by decide))
        · simp at hm
    have HCA := hidIt ((Below.heap_setCell w5 ⟨gB, 4, none⟩ (.slice ao5 1 cap5) _ (by show gA ≠ gB; omega)).trans (Same.of_below B5.out _ _ HCA2.out))
    have HLA' := hidIt (HLA.out.pres P7.out)
    generalize w5.setCell ⟨gB, 4, none⟩ (.slice ao5 1 cap5) = WB_ at *
    clear e4 e4' ef' m0 m1 m2 m3 m4 m5 m6 m7 m8 hmz B5 HO5 HO6 HX2 HX5 HMB2 HR2 HB2 P2 P5 P6 P7 HPOB HMLB HCA2 HLA
    have HLA := HLA'
    clear HLA'
    have hob : ∀ σ, (some σB : Option SG) = some σ → BodyIs .go [] σ := fun σ h => by cases h; exact HBDB.out
    go_upto_region 12 with (fail)
    have BE : Hid (Below WB_.heap.size WB_ (WB_.alloc (.cells mcl_8 43))) := below_alloc WB_ _
    have HX0 : Hid ((WB_.alloc (.cells mcl_8 43)).heap[WB_.heap.size]? = some (.cells mcl_8 43 (0, 0))) := heap_alloc_new WB_ _
    have HCA' := hidIt (Same.of_below BE.out _ _ HCA.out)
    have HLA' := hidIt (HLA.out.pres (Pres.below BE.out))
    have hAT : gA < WB_.heap.size := by have := (Array.getElem?_eq_some_iff.1 HCA.out).1; omega
    have HCB' := hidIt (Same.of_below BE.out _ _ HCB.out)
    have HLB' := hidIt (HLB.out.pres (Pres.below BE.out))
    have hBT : gB < WB_.heap.size := by have := (Array.getElem?_eq_some_iff.1 HCB.out).1; omega
    have HMB' := hidIt (Same.of_below BE.out _ _ HMB.out)
    have HR' := hidIt (HR.out.below BE.out)
    have hgT : pr < WB_.heap.size := by have := HR.out.lt; omega
    have HB' := hidIt (HB.out.trans (BE.out.mono (Nat.le_of_lt HR.out.lt)))
    clear HMB HR HB HCA HLA HCB HLB
    have HMB := HMB'
    have HR := HR'
    have HB := HB'
    clear HMB' HR' HB' BE
    have HCA := HCA'
    have HLA := HLA'
    clear HCA' HLA'
    have HCB := HCB'
    have HLB := HLB'
    clear HCB' HLB'
    generalize (WB_.alloc (.cells mcl_8 43)) = WET at *
    generalize WB_.heap.size = gT at *
    have k2 := cell_row HX0.out 2 (v := .slice none 0 0) rfl
    have HBO := hidIt (body_run pr (.slice none 0 0) [] WET HR.out (own_empty _ _ _ _) (by simp) (fun x hx => by simp at hx))
    go_upto_region 13 with (first | (go_at_call 16; refine HBO.out.mono ?_; intro e wnT hq; obtain ⟨σT, acT, ncT, capcT, ahT, nhT, caphT, afT, nfT, capfT, aopT, cappT, hbd, he, hrec, hk, hpo, hml⟩ := BodyQ.parts (k := .run) hq; have he' : e = .returned (.tuple #[.agg (mcl_3 acT ncT capcT ahT nhT caphT afT nfT capfT), .slice aopT σT.pool.length cappT]) := he; subst he'; have HBDT := hidIt hbd; have HRET := hidIt hrec; have HKT := hidIt hk; have HPOT := hidIt hpo; have HMLT := hidIt hml; clear he hq hbd hrec hk hpo hml) | (refine wpList_store_row rfl 38 _ _ rfl gm (mcl_3 acT ncT capcT ahT nhT caphT afT nfT capfT) rfl rfl 38 _ (HR.out.same HKT.out (by decide) _ _ HMB.out) (by kernel_rfl) rfl (by simp [Value.oneCell']) ?_))
    have S1 : Hid (∀ T, T ≠ 60 → Same T WET wnT) := fun T hT => HR.out.same HKT.out hT
    have Y1 := hidIt (S1.out _ (by decide) _ _ HMB.out)
    have P1 := hidIt ((Pres.body (b := gm + 1) HR.out HKT.out).trans (Pres.row (cs := (mcl_3 acT ncT capcT ahT nhT caphT afT nfT capfT)) Y1.out (Nat.lt_succ_self _)))
    have P0 := hidIt (Pres.row (b := gm + 1) (cs := (mcl_3 acT ncT capcT ahT nhT caphT afT nfT capfT)) Y1.out (Nat.lt_succ_self _))
    have Z1 : Hid (∀ (g : Nat) (cur : Array Value), wnT.heap[g]? = some (.cells cur 43 (0, 0)) → (wnT.setRow gm (mcl_3 acT ncT capcT ahT nhT caphT afT nfT capfT)).heap[g]? = some (.cells cur 43 (0, 0))) := fun g cur hg => (setRow_other _ _ _ _ (other_block hg Y1.out (by decide))).trans hg
    have HX0' := hidIt (Z1.out _ _ (S1.out _ (by decide) _ _ HX0.out))
    have HMB' := hidIt (setRow_heap wnT gm _ (mcl_3 acT ncT capcT ahT nhT caphT afT nfT capfT) _ _ Y1.out)
    have HR' := hidIt (HRET.out.row (k := gm) (cs := (mcl_3 acT ncT capcT ahT nhT caphT afT nfT capfT)) hgm)
    have HB' := hidIt (below_row (cs := (mcl_3 acT ncT capcT ahT nhT caphT afT nfT capfT)) (below_kq HB.out HR.out HKT.out) (Nat.le_of_lt hgm))
    have HPOT' := hidIt (And.intro (own_same HPOT.out.1 (P0.out.1 _ (by decide) (by decide) (by decide))) HPOT.out.2)
    have HMLT' := hidIt (HMLT.out.same (P0.out.1 _ (by decide) (by decide) (by decide)) (P0.out.1 _ (by decide) (by decide) (by decide)) (P0.out.1 _ (by decide) (by decide) (by decide)) (P0.out.1 _ (by decide) (by decide) (by decide)))
    have HCA' := hidIt (Z1.out _ _ (S1.out _ (by decide) _ _ HCA.out))
    have HLA' := hidIt (HLA.out.pres P1.out)
    have HCB' := hidIt (Z1.out _ _ (S1.out _ (by decide) _ _ HCB.out))
    have HLB' := hidIt (HLB.out.pres P1.out)
    clear k2 HBO S1 Y1 P1 P0 Z1 HKT HRET HX0 HMB HR HB HPOT HMLT HCA HCB HLA HLB
    have HX0 := HX0'
    clear HX0'
    have HMB := HMB'
    clear HMB'
    have HR := HR'
    clear HR'
    have HB := HB'
    clear HB'
    have HPOT := HPOT'
    clear HPOT'
    have HMLT := HMLT'
    clear HMLT'
    have HCA := HCA'
    clear HCA'
    have HCB := HCB'
    clear HCB'
    have HLA := HLA'
    clear HLA'
    have HLB := HLB'
    clear HLB'
    generalize wnT.setRow gm (mcl_3 acT ncT capcT ahT nhT caphT afT nfT capfT) = WB at *
    have e2 := cell_row HX0.out 2 (v := .slice none 0 0) rfl
    have ef := frozen_row HX0.out
    go_upto_region 14 with (fail)
    have HX2 : Hid ((WB.setCell ⟨gT, 2, none⟩ (.slice aopT σT.pool.length cappT)).heap[gT]? = some (.cells #[.string ⟨#[84]⟩, .string ⟨#[84, 104, 114, 101, 97, 100]⟩, .slice aopT σT.pool.length cappT, .slice none 0 0, .slice none 0 0] 43 (0, 0))) := by
      show _ = _
      rw [set_row HX0.out]; rfl
    have P2 := hidIt (Pres.set (b := gm + 1) (o := 2) (u := .slice aopT σT.pool.length cappT) HX0.out)
    have HMB2 := hidIt (Same.of_set (o := 2) (u := .slice aopT σT.pool.length cappT) HX0.out (by decide) _ _ HMB.out)
    have HR2 := hidIt (HR.out.other (k := gT) (o := 2) (u := .slice aopT σT.pool.length cappT) hgT)
    have HB2 := hidIt (below_set (o := 2) (u := .slice aopT σT.pool.length cappT) HB.out (Nat.le_of_lt hgT))
    have HCA2 := hidIt ((Below.heap_setCell WB ⟨gT, 2, none⟩ (.slice aopT σT.pool.length cappT) _ (by show gA ≠ gT; omega)).trans HCA.out)
    have HCB2 := hidIt ((Below.heap_setCell WB ⟨gT, 2, none⟩ (.slice aopT σT.pool.length cappT) _ (by show gB ≠ gT; omega)).trans HCB.out)
    generalize WB.setCell ⟨gT, 2, none⟩ (.slice aopT σT.pool.length cappT) = WC at *
    clear e2 ef HX0 HMB HR HB HCA HCB
    have e4 := cell_row HX2.out 4 (v := .slice none 0 0) rfl
    have m0 := cell_row HMB2.out 0 rfl
    have m1 := cell_row HMB2.out 1 rfl
    have m2 := cell_row HMB2.out 2 rfl
    have m3 := cell_row HMB2.out 3 rfl
    have m4 := cell_row HMB2.out 4 rfl
    have m5 := cell_row HMB2.out 5 rfl
    have m6 := cell_row HMB2.out 6 rfl
    have m7 := cell_row HMB2.out 7 rfl
    have m8 := cell_row HMB2.out 8 rfl
    have hmz := (Array.getElem?_eq_some_iff.1 HMB2.out).1
    go_upto_region 15 with (at_builtin; refine wpList_mappend rfl _ _ rfl (gm + 1) (.slice none 0 0) 0 [] (mcl_3 acT ncT capcT ahT nhT caphT afT nfT capfT).toList WC.heap.size 1 rfl rfl (own_empty _ _ _ _) (heap_alloc_new WC _) rfl (one9 rfl) (by omega) (by omega) (by omega) (by simp; omega) ?_; intro v5 w5 ho5 hg5; obtain ⟨ao5, cap5, rfl⟩ := own_slice ho5; have B5 := hidIt ((below_alloc WC _).trans ((grown_none hg5).mono (by simp))); have HO5 := hidIt ho5; have HX5 := hidIt (Same.of_below B5.out _ _ HX2.out); have e4' := cell_row HX5.out 4 (v := .slice none 0 0) rfl; have ef' := frozen_row HX5.out; clear ho5 hg5)
    have P5 := hidIt (Pres.below (b := gm + 1) B5.out)
    have P6 := hidIt (Pres.set (b := gm + 1) (o := 4) (u := .slice ao5 1 cap5) HX5.out)
    have HCT : Hid ((w5.setCell ⟨gT, 4, none⟩ (.slice ao5 1 cap5)).heap[gT]? = some (.cells #[.string ⟨#[84]⟩, .string ⟨#[84, 104, 114, 101, 97, 100]⟩, .slice aopT σT.pool.length cappT, .slice none 0 0, .slice ao5 1 cap5] 43 (0, 0))) := by
      show _ = _
      rw [set_row HX5.out]; rfl
    have HMB := hidIt (Same.of_set (o := 4) (u := .slice ao5 1 cap5) HX5.out (by decide) _ _ (Same.of_below B5.out _ _ HMB2.out))
    have HR := hidIt ((HR2.out.below B5.out).other (k := gT) (o := 4) (u := .slice ao5 1 cap5) hgT)
    have HB := hidIt (below_set (o := 4) (u := .slice ao5 1 cap5) (HB2.out.trans (B5.out.mono (by have := HR2.out.lt; omega))) (Nat.le_of_lt hgT))
    have P7 := hidIt ((P2.out.trans P5.out).trans P6.out)
    have HO6 := hidIt (own_same HO5.out (Same.of_set (o := 4) (u := .slice ao5 1 cap5) HX5.out (by decide)))
    have HLT : Hid (CLies (w5.setCell ⟨gT, 4, none⟩ (.slice ao5 1 cap5)) (gm + 1) #[.string ⟨#[84]⟩, .string ⟨#[84, 104, 114, 101, 97, 100]⟩, .slice aopT σT.pool.length cappT, .slice none 0 0, .slice ao5 1 cap5] ⟨#[84]⟩ ⟨#[84, 104, 114, 101, 97, 100]⟩ [] σT.pool [(.run, σT)]) := by
      refine ⟨_, _, _, rfl, ⟨own_same HPOT.out.1 (P7.out.1 _ (by decide) (by decide) (by decide)), HPOT.out.2⟩, ?_, [(mcl_3 acT ncT capcT ahT nhT caphT afT nfT capfT)], rfl, ?_, ?_⟩
      · exact Or.inl ⟨rfl, rfl⟩
      · exact HO6.out
      · intro j m r hm hr
        rcases j with _ | j
        · simp at hm hr; subst hm; subst hr
          exact (HMLT.out.wk (Nat.zero_le _)).same (P7.out.1 _ (by decide) (by decide) (by decide)) (P7.out.1 _ (by decide) (by decide) (by decide)) (P7.out.1 _ (by decide) (by decide) (by decide)) (P7.out.1 _ (by decide) (by decide) (by decide))
        · simp at hm
    have HCA := hidIt ((Below.heap_setCell w5 ⟨gT, 4, none⟩ (.slice ao5 1 cap5) _ (by show gA ≠ gT; omega)).trans (Same.of_below B5.out _ _ HCA2.out))
    have HLA' := hidIt (HLA.out.pres P7.out)
    have HCB := hidIt ((Below.heap_setCell w5 ⟨gT, 4, none⟩ (.slice ao5 1 cap5) _ (by show gB ≠ gT; omega)).trans (Same.of_below B5.out _ _ HCB2.out))
    have HLB' := hidIt (HLB.out.pres P7.out)
    generalize w5.setCell ⟨gT, 4, none⟩ (.slice ao5 1 cap5) = WT at *
    clear e4 e4' ef' m0 m1 m2 m3 m4 m5 m6 m7 m8 hmz B5 HO5 HO6 HX2 HX5 HMB2 HR2 HB2 P2 P5 P6 P7 HPOT HMLT HCA2 HLA HCB2 HLB
    have HLA := HLA'
    clear HLA'
    have HLB := HLB'
    clear HLB'
    go_upto_region 16 with (fail)
    have BE : Hid (Below WT.heap.size WT (WT.alloc (.cells mcl_7 43))) := below_alloc WT _
    have HX0 : Hid ((WT.alloc (.cells mcl_7 43)).heap[WT.heap.size]? = some (.cells mcl_7 43 (0, 0))) := heap_alloc_new WT _
    have HCA' := hidIt (Same.of_below BE.out _ _ HCA.out)
    have HLA' := hidIt (HLA.out.pres (Pres.below BE.out))
    have hAC : gA < WT.heap.size := by have := (Array.getElem?_eq_some_iff.1 HCA.out).1; omega
    have HCB' := hidIt (Same.of_below BE.out _ _ HCB.out)
    have HLB' := hidIt (HLB.out.pres (Pres.below BE.out))
    have hBC : gB < WT.heap.size := by have := (Array.getElem?_eq_some_iff.1 HCB.out).1; omega
    have HCT' := hidIt (Same.of_below BE.out _ _ HCT.out)
    have HLT' := hidIt (HLT.out.pres (Pres.below BE.out))
    have hTC : gT < WT.heap.size := by have := (Array.getElem?_eq_some_iff.1 HCT.out).1; omega
    have HMB' := hidIt (Same.of_below BE.out _ _ HMB.out)
    have HR' := hidIt (HR.out.below BE.out)
    have hgC : pr < WT.heap.size := by have := HR.out.lt; omega
    have HB' := hidIt (HB.out.trans (BE.out.mono (Nat.le_of_lt HR.out.lt)))
    clear HMB HR HB HCA HLA HCB HLB HCT HLT
    have HMB := HMB'
    have HR := HR'
    have HB := HB'
    clear HMB' HR' HB' BE
    have HCA := HCA'
    have HLA := HLA'
    clear HCA' HLA'
    have HCB := HCB'
    have HLB := HLB'
    clear HCB' HLB'
    have HCT := HCT'
    have HLT := HLT'
    clear HCT' HLT'
    generalize (WT.alloc (.cells mcl_7 43)) = WEC at *
    generalize WT.heap.size = gC at *
    have k2 := cell_row HX0.out 2 (v := .slice none 0 0) rfl
    have HBO := hidIt (body_main pr (.slice none 0 0) [] WEC HR.out (own_empty _ _ _ _) (by simp) (fun x hx => by simp at hx))
    go_upto_region 17 with (first | (go_at_call 16; refine HBO.out.mono ?_; intro e wnM hq; obtain ⟨σM, acM, ncM, capcM, ahM, nhM, caphM, afM, nfM, capfM, aopM, cappM, hbd, he, hrec, hk, hpo, hml⟩ := BodyQ.parts (k := .main) hq; have he' : e = .returned (.tuple #[.agg (mcl_2 acM ncM capcM ahM nhM caphM afM nfM capfM), .slice aopM σM.pool.length cappM]) := he; subst he'; have HBDM := hidIt hbd; have HREM := hidIt hrec; have HKM := hidIt hk; have HPOM := hidIt hpo; have HMLM := hidIt hml; clear he hq hbd hrec hk hpo hml) | (refine wpList_store_row rfl 38 _ _ rfl gm (mcl_2 acM ncM capcM ahM nhM caphM afM nfM capfM) rfl rfl 38 _ (HR.out.same HKM.out (by decide) _ _ HMB.out) (by kernel_rfl) rfl (by simp [Value.oneCell']) ?_))
    have S1 : Hid (∀ T, T ≠ 60 → Same T WEC wnM) := fun T hT => HR.out.same HKM.out hT
    have Y1 := hidIt (S1.out _ (by decide) _ _ HMB.out)
    have P1 := hidIt ((Pres.body (b := gm + 1) HR.out HKM.out).trans (Pres.row (cs := (mcl_2 acM ncM capcM ahM nhM caphM afM nfM capfM)) Y1.out (Nat.lt_succ_self _)))
    have P0 := hidIt (Pres.row (b := gm + 1) (cs := (mcl_2 acM ncM capcM ahM nhM caphM afM nfM capfM)) Y1.out (Nat.lt_succ_self _))
    have Z1 : Hid (∀ (g : Nat) (cur : Array Value), wnM.heap[g]? = some (.cells cur 43 (0, 0)) → (wnM.setRow gm (mcl_2 acM ncM capcM ahM nhM caphM afM nfM capfM)).heap[g]? = some (.cells cur 43 (0, 0))) := fun g cur hg => (setRow_other _ _ _ _ (other_block hg Y1.out (by decide))).trans hg
    have HX0' := hidIt (Z1.out _ _ (S1.out _ (by decide) _ _ HX0.out))
    have HMB' := hidIt (setRow_heap wnM gm _ (mcl_2 acM ncM capcM ahM nhM caphM afM nfM capfM) _ _ Y1.out)
    have HR' := hidIt (HREM.out.row (k := gm) (cs := (mcl_2 acM ncM capcM ahM nhM caphM afM nfM capfM)) hgm)
    have HB' := hidIt (below_row (cs := (mcl_2 acM ncM capcM ahM nhM caphM afM nfM capfM)) (below_kq HB.out HR.out HKM.out) (Nat.le_of_lt hgm))
    have HPOM' := hidIt (And.intro (own_same HPOM.out.1 (P0.out.1 _ (by decide) (by decide) (by decide))) HPOM.out.2)
    have HMLM' := hidIt (HMLM.out.same (P0.out.1 _ (by decide) (by decide) (by decide)) (P0.out.1 _ (by decide) (by decide) (by decide)) (P0.out.1 _ (by decide) (by decide) (by decide)) (P0.out.1 _ (by decide) (by decide) (by decide)))
    have HCA' := hidIt (Z1.out _ _ (S1.out _ (by decide) _ _ HCA.out))
    have HLA' := hidIt (HLA.out.pres P1.out)
    have HCB' := hidIt (Z1.out _ _ (S1.out _ (by decide) _ _ HCB.out))
    have HLB' := hidIt (HLB.out.pres P1.out)
    have HCT' := hidIt (Z1.out _ _ (S1.out _ (by decide) _ _ HCT.out))
    have HLT' := hidIt (HLT.out.pres P1.out)
    clear k2 HBO S1 Y1 P1 P0 Z1 HKM HREM HX0 HMB HR HB HPOM HMLM HCA HCB HCT HLA HLB HLT
    have HX0 := HX0'
    clear HX0'
    have HMB := HMB'
    clear HMB'
    have HR := HR'
    clear HR'
    have HB := HB'
    clear HB'
    have HPOM := HPOM'
    clear HPOM'
    have HMLM := HMLM'
    clear HMLM'
    have HCA := HCA'
    clear HCA'
    have HCB := HCB'
    clear HCB'
    have HCT := HCT'
    clear HCT'
    have HLA := HLA'
    clear HLA'
    have HLB := HLB'
    clear HLB'
    have HLT := HLT'
    clear HLT'
    generalize wnM.setRow gm (mcl_2 acM ncM capcM ahM nhM caphM afM nfM capfM) = WB at *
    have HLE := (body_made HBDM.out (by simp)).good.pool
    have HBO := hidIt (body_calc pr (.slice aopM σM.pool.length cappM) σM.pool WB HR.out HPOM.out.1 HLE HPOM.out.2)
    clear HLE
    go_upto_region 18 with (go_at_call 16; refine HBO.out.mono ?_; intro e wnN hq; obtain ⟨σN, acN, ncN, capcN, ahN, nhN, caphN, afN, nfN, capfN, aopN, cappN, hbd, he, hrec, hk, hpo, hml⟩ := BodyQ.parts (k := .calc) hq; have he' : e = .returned (.tuple #[.agg (mcl_1 acN ncN capcN ahN nhN caphN afN nfN capfN), .slice aopN σN.pool.length cappN]) := he; subst he'; have HBDN := hidIt hbd; have HREN := hidIt hrec; have HKN := hidIt hk; have HPON := hidIt hpo; have HMLN := hidIt hml; clear he hq hbd hrec hk hpo hml)
    have BN := hidIt (below_alloc wnN (.cells (mcl_1 acN ncN capcN ahN nhN caphN afN nfN capfN) 38))
    have PN := hidIt ((Pres.body (b := gm + 1) HR.out HKN.out).trans (Pres.below BN.out))
    have SN : Hid (∀ T, T ≠ 60 → Same T WB (wnN.alloc (.cells (mcl_1 acN ncN capcN ahN nhN caphN afN nfN capfN) 38))) := fun T hT => (HR.out.same HKN.out hT).trans (Same.of_below BN.out)
    have HNB := hidIt (heap_alloc_new wnN (.cells (mcl_1 acN ncN capcN ahN nhN caphN afN nfN capfN) 38))
    have HX0' := hidIt (SN.out _ (by decide) _ _ HX0.out)
    have HMB' := hidIt (SN.out _ (by decide) _ _ HMB.out)
    have HR' := hidIt (HREN.out.below BN.out)
    have HB' := hidIt ((below_kq HB.out HR.out HKN.out).trans (BN.out.mono (Nat.le_of_lt HREN.out.lt)))
    have HPON' := hidIt (And.intro (own_same HPON.out.1 (Same.of_below BN.out)) HPON.out.2)
    have HMLN' := hidIt (HMLN.out.same (Same.of_below BN.out) (Same.of_below BN.out) (Same.of_below BN.out) (Same.of_below BN.out))
    have HMLM' := hidIt (HMLM.out.same (SN.out _ (by decide)) (SN.out _ (by decide)) (SN.out _ (by decide)) (SN.out _ (by decide)))
    have HCA' := hidIt (SN.out _ (by decide) _ _ HCA.out)
    have HLA' := hidIt (HLA.out.pres PN.out)
    have HCB' := hidIt (SN.out _ (by decide) _ _ HCB.out)
    have HLB' := hidIt (HLB.out.pres PN.out)
    have HCT' := hidIt (SN.out _ (by decide) _ _ HCT.out)
    have HLT' := hidIt (HLT.out.pres PN.out)
    clear HBO HPOM PN SN BN HKN HREN HX0 HMB HR HB HPON HMLN HMLM HCA HCB HCT HLA HLB HLT
    have HX0 := HX0'
    clear HX0'
    have HMB := HMB'
    clear HMB'
    have HR := HR'
    clear HR'
    have HB := HB'
    clear HB'
    have HPON := HPON'
    clear HPON'
    have HMLN := HMLN'
    clear HMLN'
    have HMLM := HMLM'
    clear HMLM'
    have HCA := HCA'
    clear HCA'
    have HCB := HCB'
    clear HCB'
    have HCT := HCT'
    clear HCT'
    have HLA := HLA'
    clear HLA'
    have HLB := HLB'
    clear HLB'
    have HLT := HLT'
    clear HLT'
    generalize wnN.alloc (.cells (mcl_1 acN ncN capcN ahN nhN caphN afN nfN capfN) 38) = WF at *
    generalize wnN.heap.size = gn at *
    have e2 := cell_row HX0.out 2 (v := .slice none 0 0) rfl
    have ef := frozen_row HX0.out
    go_upto_region 19 with (fail)
    have HX2 : Hid ((WF.setCell ⟨gC, 2, none⟩ (.slice aopN σN.pool.length cappN)).heap[gC]? = some (.cells #[.string ⟨#[77, 97, 105, 110]⟩, .string ⟨#[79, 98, 106, 101, 99, 116]⟩, .slice aopN σN.pool.length cappN, .slice none 0 0, .slice none 0 0] 43 (0, 0))) := by
      show _ = _
      rw [set_row HX0.out]; rfl
    have P2 := hidIt (Pres.set (b := gm + 1) (o := 2) (u := .slice aopN σN.pool.length cappN) HX0.out)
    have HMB2 := hidIt (Same.of_set (o := 2) (u := .slice aopN σN.pool.length cappN) HX0.out (by decide) _ _ HMB.out)
    have HNB2 := hidIt (Same.of_set (o := 2) (u := .slice aopN σN.pool.length cappN) HX0.out (by decide) _ _ HNB.out)
    have HR2 := hidIt (HR.out.other (k := gC) (o := 2) (u := .slice aopN σN.pool.length cappN) hgC)
    have HB2 := hidIt (below_set (o := 2) (u := .slice aopN σN.pool.length cappN) HB.out (Nat.le_of_lt hgC))
    have HCA2 := hidIt ((Below.heap_setCell WF ⟨gC, 2, none⟩ (.slice aopN σN.pool.length cappN) _ (by show gA ≠ gC; omega)).trans HCA.out)
    have HCB2 := hidIt ((Below.heap_setCell WF ⟨gC, 2, none⟩ (.slice aopN σN.pool.length cappN) _ (by show gB ≠ gC; omega)).trans HCB.out)
    have HCT2 := hidIt ((Below.heap_setCell WF ⟨gC, 2, none⟩ (.slice aopN σN.pool.length cappN) _ (by show gT ≠ gC; omega)).trans HCT.out)
    generalize WF.setCell ⟨gC, 2, none⟩ (.slice aopN σN.pool.length cappN) = WG at *
    clear e2 ef HX0 HMB HNB HR HB HCA HCB HCT
    have e4 := cell_row HX2.out 4 (v := .slice none 0 0) rfl
    have m0 := cell_row HMB2.out 0 rfl
    have n0 := cell_row HNB2.out 0 rfl
    have m1 := cell_row HMB2.out 1 rfl
    have n1 := cell_row HNB2.out 1 rfl
    have m2 := cell_row HMB2.out 2 rfl
    have n2 := cell_row HNB2.out 2 rfl
    have m3 := cell_row HMB2.out 3 rfl
    have n3 := cell_row HNB2.out 3 rfl
    have m4 := cell_row HMB2.out 4 rfl
    have n4 := cell_row HNB2.out 4 rfl
    have m5 := cell_row HMB2.out 5 rfl
    have n5 := cell_row HNB2.out 5 rfl
    have m6 := cell_row HMB2.out 6 rfl
    have n6 := cell_row HNB2.out 6 rfl
    have m7 := cell_row HMB2.out 7 rfl
    have n7 := cell_row HNB2.out 7 rfl
    have m8 := cell_row HMB2.out 8 rfl
    have n8 := cell_row HNB2.out 8 rfl
    have hmz := (Array.getElem?_eq_some_iff.1 HMB2.out).1
    go_upto_region 20 with (at_builtin; refine wpList_mappend rfl _ _ rfl (gm + 1) (.slice none 0 0) 0 [] #[.string ⟨#[109, 97, 105, 110]⟩, .string ⟨#[40, 41, 86]⟩, .bool true, .bool false, .int .i64 16, .int .i64 10, .slice acM ncM capcM, .slice ahM nhM caphM, .slice afM nfM capfM, .string ⟨#[99, 97, 108, 99]⟩, .string ⟨#[40, 73, 73, 41, 73]⟩, .bool true, .bool false, .int .i64 16, .int .i64 4, .slice acN ncN capcN, .slice ahN nhN caphN, .slice afN nfN capfN].toList WG.heap.size 2 rfl rfl (own_empty _ _ _ _) (heap_alloc_new WG _) rfl (one9 rfl) (by omega) (by omega) (by omega) (by simp; omega) ?_; intro v5 w5 ho5 hg5; obtain ⟨ao5, cap5, rfl⟩ := own_slice ho5; have B5 := hidIt ((below_alloc WG _).trans ((grown_none hg5).mono (by simp))); have HO5 := hidIt ho5; have HX5 := hidIt (Same.of_below B5.out _ _ HX2.out); have e4' := cell_row HX5.out 4 (v := .slice none 0 0) rfl; have ef' := frozen_row HX5.out; clear ho5 hg5)
    have P5 := hidIt (Pres.below (b := gm + 1) B5.out)
    have P6 := hidIt (Pres.set (b := gm + 1) (o := 4) (u := .slice ao5 2 cap5) HX5.out)
    have HCC : Hid ((w5.setCell ⟨gC, 4, none⟩ (.slice ao5 2 cap5)).heap[gC]? = some (.cells #[.string ⟨#[77, 97, 105, 110]⟩, .string ⟨#[79, 98, 106, 101, 99, 116]⟩, .slice aopN σN.pool.length cappN, .slice none 0 0, .slice ao5 2 cap5] 43 (0, 0))) := by
      show _ = _
      rw [set_row HX5.out]; rfl
    have HB := hidIt (below_set (o := 4) (u := .slice ao5 2 cap5) (HB2.out.trans (B5.out.mono (by have := HR2.out.lt; omega))) (Nat.le_of_lt hgC))
    have HRZ := hidIt (Nat.lt_of_lt_of_le HR2.out.lt B5.out.size)
    have P7 := hidIt ((P2.out.trans P5.out).trans P6.out)
    have HO6 := hidIt (own_same HO5.out (Same.of_set (o := 4) (u := .slice ao5 2 cap5) HX5.out (by decide)))
    have HLC : Hid (CLies (w5.setCell ⟨gC, 4, none⟩ (.slice ao5 2 cap5)) (gm + 1) #[.string ⟨#[77, 97, 105, 110]⟩, .string ⟨#[79, 98, 106, 101, 99, 116]⟩, .slice aopN σN.pool.length cappN, .slice none 0 0, .slice ao5 2 cap5] ⟨#[77, 97, 105, 110]⟩ ⟨#[79, 98, 106, 101, 99, 116]⟩ [] σN.pool [(.main, σM), (.calc, σN)]) := by
      refine ⟨_, _, _, rfl, ⟨own_same HPON.out.1 (P7.out.1 _ (by decide) (by decide) (by decide)), HPON.out.2⟩, Or.inl ⟨rfl, rfl⟩, [(mcl_2 acM ncM capcM ahM nhM caphM afM nfM capfM), (mcl_1 acN ncN capcN ahN nhN caphN afN nfN capfN)], rfl, ?_, ?_⟩
      · exact HO6.out
      · intro j m r hm hr
        rcases j with _ | _ | j
        · simp at hm hr; subst hm; subst hr
          exact (HMLM.out.wk (Nat.zero_le _)).same (P7.out.1 _ (by decide) (by decide) (by decide)) (P7.out.1 _ (by decide) (by decide) (by decide)) (P7.out.1 _ (by decide) (by decide) (by decide)) (P7.out.1 _ (by decide) (by decide) (by decide))
        · simp at hm hr; subst hm; subst hr
          exact (HMLN.out.wk (Nat.zero_le _)).same (P7.out.1 _ (by decide) (by decide) (by decide)) (P7.out.1 _ (by decide) (by decide) (by decide)) (P7.out.1 _ (by decide) (by decide) (by decide)) (P7.out.1 _ (by decide) (by decide) (by decide))
        · simp at hm
    have HCA := hidIt ((Below.heap_setCell w5 ⟨gC, 4, none⟩ (.slice ao5 2 cap5) _ (by show gA ≠ gC; omega)).trans (Same.of_below B5.out _ _ HCA2.out))
    have HLA' := hidIt (HLA.out.pres P7.out)
    have HCB := hidIt ((Below.heap_setCell w5 ⟨gC, 4, none⟩ (.slice ao5 2 cap5) _ (by show gB ≠ gC; omega)).trans (Same.of_below B5.out _ _ HCB2.out))
    have HLB' := hidIt (HLB.out.pres P7.out)
    have HCT := hidIt ((Below.heap_setCell w5 ⟨gC, 4, none⟩ (.slice ao5 2 cap5) _ (by show gT ≠ gC; omega)).trans (Same.of_below B5.out _ _ HCT2.out))
    have HLT' := hidIt (HLT.out.pres P7.out)
    have hsz : (w5.setCell ⟨gC, 4, none⟩ (.slice ao5 2 cap5)).heap.size = w5.heap.size := by simp
    have HSZ := hidIt hsz
    clear hsz
    generalize w5.setCell ⟨gC, 4, none⟩ (.slice ao5 2 cap5) = WZ at *
    clear e4 e4' ef' m0 m1 m2 m3 m4 m5 m6 m7 m8 n0 n1 n2 n3 n4 n5 n6 n7 n8 hmz B5 HO5 HO6 HX2 HX5 HMB2 HNB2 HR2 HB2 P2 P5 P6 P7 HPON HMLN HMLM HCA2 HLA HCB2 HLB HCT2 HLT
    have HLA := HLA'
    clear HLA'
    have HLB := HLB'
    clear HLB'
    have HLT := HLT'
    clear HLT'
    have cA0 := cell_row HCA.out 0 rfl
    have cA1 := cell_row HCA.out 1 rfl
    have cA2 := cell_row HCA.out 2 rfl
    have cA3 := cell_row HCA.out 3 rfl
    have cA4 := cell_row HCA.out 4 rfl
    have cB0 := cell_row HCB.out 0 rfl
    have cB1 := cell_row HCB.out 1 rfl
    have cB2 := cell_row HCB.out 2 rfl
    have cB3 := cell_row HCB.out 3 rfl
    have cB4 := cell_row HCB.out 4 rfl
    have cT0 := cell_row HCT.out 0 rfl
    have cT1 := cell_row HCT.out 1 rfl
    have cT2 := cell_row HCT.out 2 rfl
    have cT3 := cell_row HCT.out 3 rfl
    have cT4 := cell_row HCT.out 4 rfl
    have cC0 := cell_row HCC.out 0 rfl
    have cC1 := cell_row HCC.out 1 rfl
    have cC2 := cell_row HCC.out 2 rfl
    have cC3 := cell_row HCC.out 3 rfl
    have cC4 := cell_row HCC.out 4 rfl
    go_wp2_with fail
    go_ret
    unfold ClassesG
    rw [HPR.out]
    have hzz := HRZ.out
    rw [← HSZ.out] at hzz
    refine ⟨WZ.heap.size, _, _, _, _, σA, some σB, σT, σM, σN, ⟨HBDA.out, hob, HBDT.out, HBDM.out, HBDN.out⟩, rfl, Nat.le_of_lt hzz, heap_alloc_new WZ _, HB.out.trans ((below_alloc WZ _).mono (Nat.le_of_lt hzz)), (HLA.out.wk (by omega)).pres (Pres.below (below_alloc WZ _)), (HLB.out.wk (by omega)).pres (Pres.below (below_alloc WZ _)), (HLT.out.wk (by omega)).pres (Pres.below (below_alloc WZ _)), (HLC.out.wk (by omega)).pres (Pres.below (below_alloc WZ _))⟩
  · have hdum := True.intro
    go_upto_region 11 with (fail)
    have HCB := HX0
    have HLB : Hid (CLies wt (gm + 1) (mcl_9 gfB) ⟨#[66]⟩ ⟨#[65]⟩ fieldsB (poolB none) (methB none)) := ⟨_, _, _, rfl, ⟨own_empty _ _ _ _, fun x hx => by simp [poolB] at hx⟩, Or.inr ⟨gfB, rfl, HFB.out⟩, [], rfl, own_empty _ _ _ _, fun j m r hm hr => by simp at hr⟩
    have hob : ∀ σ, (none : Option SG) = some σ → BodyIs .go [] σ := fun σ h => by cases h
    go_upto_region 12 with (fail)
    have BE : Hid (Below wt.heap.size wt (wt.alloc (.cells mcl_8 43))) := below_alloc wt _
    have HX0 : Hid ((wt.alloc (.cells mcl_8 43)).heap[wt.heap.size]? = some (.cells mcl_8 43 (0, 0))) := heap_alloc_new wt _
    have HCA' := hidIt (Same.of_below BE.out _ _ HCA.out)
    have HLA' := hidIt (HLA.out.pres (Pres.below BE.out))
    have hAT : gA < wt.heap.size := by have := (Array.getElem?_eq_some_iff.1 HCA.out).1; omega
    have HCB' := hidIt (Same.of_below BE.out _ _ HCB.out)
    have HLB' := hidIt (HLB.out.pres (Pres.below BE.out))
    have hBT : gB < wt.heap.size := by have := (Array.getElem?_eq_some_iff.1 HCB.out).1; omega
    have HMB' := hidIt (Same.of_below BE.out _ _ HMB.out)
    have HR' := hidIt (HR.out.below BE.out)
    have hgT : pr < wt.heap.size := by have := HR.out.lt; omega
    have HB' := hidIt (HB.out.trans (BE.out.mono (Nat.le_of_lt HR.out.lt)))
    clear HMB HR HB HCA HLA HCB HLB
    have HMB := HMB'
    have HR := HR'
    have HB := HB'
    clear HMB' HR' HB' BE
    have HCA := HCA'
    have HLA := HLA'
    clear HCA' HLA'
    have HCB := HCB'
    have HLB := HLB'
    clear HCB' HLB'
    generalize (wt.alloc (.cells mcl_8 43)) = WET at *
    generalize wt.heap.size = gT at *
    have k2 := cell_row HX0.out 2 (v := .slice none 0 0) rfl
    have HBO := hidIt (body_run pr (.slice none 0 0) [] WET HR.out (own_empty _ _ _ _) (by simp) (fun x hx => by simp at hx))
    go_upto_region 13 with (first | (go_at_call 16; refine HBO.out.mono ?_; intro e wnT hq; obtain ⟨σT, acT, ncT, capcT, ahT, nhT, caphT, afT, nfT, capfT, aopT, cappT, hbd, he, hrec, hk, hpo, hml⟩ := BodyQ.parts (k := .run) hq; have he' : e = .returned (.tuple #[.agg (mcl_3 acT ncT capcT ahT nhT caphT afT nfT capfT), .slice aopT σT.pool.length cappT]) := he; subst he'; have HBDT := hidIt hbd; have HRET := hidIt hrec; have HKT := hidIt hk; have HPOT := hidIt hpo; have HMLT := hidIt hml; clear he hq hbd hrec hk hpo hml) | (refine wpList_store_row rfl 38 _ _ rfl gm (mcl_3 acT ncT capcT ahT nhT caphT afT nfT capfT) rfl rfl 38 _ (HR.out.same HKT.out (by decide) _ _ HMB.out) (by kernel_rfl) rfl (by simp [Value.oneCell']) ?_))
    have S1 : Hid (∀ T, T ≠ 60 → Same T WET wnT) := fun T hT => HR.out.same HKT.out hT
    have Y1 := hidIt (S1.out _ (by decide) _ _ HMB.out)
    have P1 := hidIt ((Pres.body (b := gm + 1) HR.out HKT.out).trans (Pres.row (cs := (mcl_3 acT ncT capcT ahT nhT caphT afT nfT capfT)) Y1.out (Nat.lt_succ_self _)))
    have P0 := hidIt (Pres.row (b := gm + 1) (cs := (mcl_3 acT ncT capcT ahT nhT caphT afT nfT capfT)) Y1.out (Nat.lt_succ_self _))
    have Z1 : Hid (∀ (g : Nat) (cur : Array Value), wnT.heap[g]? = some (.cells cur 43 (0, 0)) → (wnT.setRow gm (mcl_3 acT ncT capcT ahT nhT caphT afT nfT capfT)).heap[g]? = some (.cells cur 43 (0, 0))) := fun g cur hg => (setRow_other _ _ _ _ (other_block hg Y1.out (by decide))).trans hg
    have HX0' := hidIt (Z1.out _ _ (S1.out _ (by decide) _ _ HX0.out))
    have HMB' := hidIt (setRow_heap wnT gm _ (mcl_3 acT ncT capcT ahT nhT caphT afT nfT capfT) _ _ Y1.out)
    have HR' := hidIt (HRET.out.row (k := gm) (cs := (mcl_3 acT ncT capcT ahT nhT caphT afT nfT capfT)) hgm)
    have HB' := hidIt (below_row (cs := (mcl_3 acT ncT capcT ahT nhT caphT afT nfT capfT)) (below_kq HB.out HR.out HKT.out) (Nat.le_of_lt hgm))
    have HPOT' := hidIt (And.intro (own_same HPOT.out.1 (P0.out.1 _ (by decide) (by decide) (by decide))) HPOT.out.2)
    have HMLT' := hidIt (HMLT.out.same (P0.out.1 _ (by decide) (by decide) (by decide)) (P0.out.1 _ (by decide) (by decide) (by decide)) (P0.out.1 _ (by decide) (by decide) (by decide)) (P0.out.1 _ (by decide) (by decide) (by decide)))
    have HCA' := hidIt (Z1.out _ _ (S1.out _ (by decide) _ _ HCA.out))
    have HLA' := hidIt (HLA.out.pres P1.out)
    have HCB' := hidIt (Z1.out _ _ (S1.out _ (by decide) _ _ HCB.out))
    have HLB' := hidIt (HLB.out.pres P1.out)
    clear k2 HBO S1 Y1 P1 P0 Z1 HKT HRET HX0 HMB HR HB HPOT HMLT HCA HCB HLA HLB
    have HX0 := HX0'
    clear HX0'
    have HMB := HMB'
    clear HMB'
    have HR := HR'
    clear HR'
    have HB := HB'
    clear HB'
    have HPOT := HPOT'
    clear HPOT'
    have HMLT := HMLT'
    clear HMLT'
    have HCA := HCA'
    clear HCA'
    have HCB := HCB'
    clear HCB'
    have HLA := HLA'
    clear HLA'
    have HLB := HLB'
    clear HLB'
    generalize wnT.setRow gm (mcl_3 acT ncT capcT ahT nhT caphT afT nfT capfT) = WB at *
    have e2 := cell_row HX0.out 2 (v := .slice none 0 0) rfl
    have ef := frozen_row HX0.out
    go_upto_region 14 with (fail)
    have HX2 : Hid ((WB.setCell ⟨gT, 2, none⟩ (.slice aopT σT.pool.length cappT)).heap[gT]? = some (.cells #[.string ⟨#[84]⟩, .string ⟨#[84, 104, 114, 101, 97, 100]⟩, .slice aopT σT.pool.length cappT, .slice none 0 0, .slice none 0 0] 43 (0, 0))) := by
      show _ = _
      rw [set_row HX0.out]; rfl
    have P2 := hidIt (Pres.set (b := gm + 1) (o := 2) (u := .slice aopT σT.pool.length cappT) HX0.out)
    have HMB2 := hidIt (Same.of_set (o := 2) (u := .slice aopT σT.pool.length cappT) HX0.out (by decide) _ _ HMB.out)
    have HR2 := hidIt (HR.out.other (k := gT) (o := 2) (u := .slice aopT σT.pool.length cappT) hgT)
    have HB2 := hidIt (below_set (o := 2) (u := .slice aopT σT.pool.length cappT) HB.out (Nat.le_of_lt hgT))
    have HCA2 := hidIt ((Below.heap_setCell WB ⟨gT, 2, none⟩ (.slice aopT σT.pool.length cappT) _ (by show gA ≠ gT; omega)).trans HCA.out)
    have HCB2 := hidIt ((Below.heap_setCell WB ⟨gT, 2, none⟩ (.slice aopT σT.pool.length cappT) _ (by show gB ≠ gT; omega)).trans HCB.out)
    generalize WB.setCell ⟨gT, 2, none⟩ (.slice aopT σT.pool.length cappT) = WC at *
    clear e2 ef HX0 HMB HR HB HCA HCB
    have e4 := cell_row HX2.out 4 (v := .slice none 0 0) rfl
    have m0 := cell_row HMB2.out 0 rfl
    have m1 := cell_row HMB2.out 1 rfl
    have m2 := cell_row HMB2.out 2 rfl
    have m3 := cell_row HMB2.out 3 rfl
    have m4 := cell_row HMB2.out 4 rfl
    have m5 := cell_row HMB2.out 5 rfl
    have m6 := cell_row HMB2.out 6 rfl
    have m7 := cell_row HMB2.out 7 rfl
    have m8 := cell_row HMB2.out 8 rfl
    have hmz := (Array.getElem?_eq_some_iff.1 HMB2.out).1
    go_upto_region 15 with (at_builtin; refine wpList_mappend rfl _ _ rfl (gm + 1) (.slice none 0 0) 0 [] (mcl_3 acT ncT capcT ahT nhT caphT afT nfT capfT).toList WC.heap.size 1 rfl rfl (own_empty _ _ _ _) (heap_alloc_new WC _) rfl (one9 rfl) (by omega) (by omega) (by omega) (by simp; omega) ?_; intro v5 w5 ho5 hg5; obtain ⟨ao5, cap5, rfl⟩ := own_slice ho5; have B5 := hidIt ((below_alloc WC _).trans ((grown_none hg5).mono (by simp))); have HO5 := hidIt ho5; have HX5 := hidIt (Same.of_below B5.out _ _ HX2.out); have e4' := cell_row HX5.out 4 (v := .slice none 0 0) rfl; have ef' := frozen_row HX5.out; clear ho5 hg5)
    have P5 := hidIt (Pres.below (b := gm + 1) B5.out)
    have P6 := hidIt (Pres.set (b := gm + 1) (o := 4) (u := .slice ao5 1 cap5) HX5.out)
    have HCT : Hid ((w5.setCell ⟨gT, 4, none⟩ (.slice ao5 1 cap5)).heap[gT]? = some (.cells #[.string ⟨#[84]⟩, .string ⟨#[84, 104, 114, 101, 97, 100]⟩, .slice aopT σT.pool.length cappT, .slice none 0 0, .slice ao5 1 cap5] 43 (0, 0))) := by
      show _ = _
      rw [set_row HX5.out]; rfl
    have HMB := hidIt (Same.of_set (o := 4) (u := .slice ao5 1 cap5) HX5.out (by decide) _ _ (Same.of_below B5.out _ _ HMB2.out))
    have HR := hidIt ((HR2.out.below B5.out).other (k := gT) (o := 4) (u := .slice ao5 1 cap5) hgT)
    have HB := hidIt (below_set (o := 4) (u := .slice ao5 1 cap5) (HB2.out.trans (B5.out.mono (by have := HR2.out.lt; omega))) (Nat.le_of_lt hgT))
    have P7 := hidIt ((P2.out.trans P5.out).trans P6.out)
    have HO6 := hidIt (own_same HO5.out (Same.of_set (o := 4) (u := .slice ao5 1 cap5) HX5.out (by decide)))
    have HLT : Hid (CLies (w5.setCell ⟨gT, 4, none⟩ (.slice ao5 1 cap5)) (gm + 1) #[.string ⟨#[84]⟩, .string ⟨#[84, 104, 114, 101, 97, 100]⟩, .slice aopT σT.pool.length cappT, .slice none 0 0, .slice ao5 1 cap5] ⟨#[84]⟩ ⟨#[84, 104, 114, 101, 97, 100]⟩ [] σT.pool [(.run, σT)]) := by
      refine ⟨_, _, _, rfl, ⟨own_same HPOT.out.1 (P7.out.1 _ (by decide) (by decide) (by decide)), HPOT.out.2⟩, ?_, [(mcl_3 acT ncT capcT ahT nhT caphT afT nfT capfT)], rfl, ?_, ?_⟩
      · exact Or.inl ⟨rfl, rfl⟩
      · exact HO6.out
      · intro j m r hm hr
        rcases j with _ | j
        · simp at hm hr; subst hm; subst hr
          exact (HMLT.out.wk (Nat.zero_le _)).same (P7.out.1 _ (by decide) (by decide) (by decide)) (P7.out.1 _ (by decide) (by decide) (by decide)) (P7.out.1 _ (by decide) (by decide) (by decide)) (P7.out.1 _ (by decide) (by decide) (by decide))
        · simp at hm
    have HCA := hidIt ((Below.heap_setCell w5 ⟨gT, 4, none⟩ (.slice ao5 1 cap5) _ (by show gA ≠ gT; omega)).trans (Same.of_below B5.out _ _ HCA2.out))
    have HLA' := hidIt (HLA.out.pres P7.out)
    have HCB := hidIt ((Below.heap_setCell w5 ⟨gT, 4, none⟩ (.slice ao5 1 cap5) _ (by show gB ≠ gT; omega)).trans (Same.of_below B5.out _ _ HCB2.out))
    have HLB' := hidIt (HLB.out.pres P7.out)
    generalize w5.setCell ⟨gT, 4, none⟩ (.slice ao5 1 cap5) = WT at *
    clear e4 e4' ef' m0 m1 m2 m3 m4 m5 m6 m7 m8 hmz B5 HO5 HO6 HX2 HX5 HMB2 HR2 HB2 P2 P5 P6 P7 HPOT HMLT HCA2 HLA HCB2 HLB
    have HLA := HLA'
    clear HLA'
    have HLB := HLB'
    clear HLB'
    go_upto_region 16 with (fail)
    have BE : Hid (Below WT.heap.size WT (WT.alloc (.cells mcl_7 43))) := below_alloc WT _
    have HX0 : Hid ((WT.alloc (.cells mcl_7 43)).heap[WT.heap.size]? = some (.cells mcl_7 43 (0, 0))) := heap_alloc_new WT _
    have HCA' := hidIt (Same.of_below BE.out _ _ HCA.out)
    have HLA' := hidIt (HLA.out.pres (Pres.below BE.out))
    have hAC : gA < WT.heap.size := by have := (Array.getElem?_eq_some_iff.1 HCA.out).1; omega
    have HCB' := hidIt (Same.of_below BE.out _ _ HCB.out)
    have HLB' := hidIt (HLB.out.pres (Pres.below BE.out))
    have hBC : gB < WT.heap.size := by have := (Array.getElem?_eq_some_iff.1 HCB.out).1; omega
    have HCT' := hidIt (Same.of_below BE.out _ _ HCT.out)
    have HLT' := hidIt (HLT.out.pres (Pres.below BE.out))
    have hTC : gT < WT.heap.size := by have := (Array.getElem?_eq_some_iff.1 HCT.out).1; omega
    have HMB' := hidIt (Same.of_below BE.out _ _ HMB.out)
    have HR' := hidIt (HR.out.below BE.out)
    have hgC : pr < WT.heap.size := by have := HR.out.lt; omega
    have HB' := hidIt (HB.out.trans (BE.out.mono (Nat.le_of_lt HR.out.lt)))
    clear HMB HR HB HCA HLA HCB HLB HCT HLT
    have HMB := HMB'
    have HR := HR'
    have HB := HB'
    clear HMB' HR' HB' BE
    have HCA := HCA'
    have HLA := HLA'
    clear HCA' HLA'
    have HCB := HCB'
    have HLB := HLB'
    clear HCB' HLB'
    have HCT := HCT'
    have HLT := HLT'
    clear HCT' HLT'
    generalize (WT.alloc (.cells mcl_7 43)) = WEC at *
    generalize WT.heap.size = gC at *
    have k2 := cell_row HX0.out 2 (v := .slice none 0 0) rfl
    have HBO := hidIt (body_main pr (.slice none 0 0) [] WEC HR.out (own_empty _ _ _ _) (by simp) (fun x hx => by simp at hx))
    go_upto_region 17 with (first | (go_at_call 16; refine HBO.out.mono ?_; intro e wnM hq; obtain ⟨σM, acM, ncM, capcM, ahM, nhM, caphM, afM, nfM, capfM, aopM, cappM, hbd, he, hrec, hk, hpo, hml⟩ := BodyQ.parts (k := .main) hq; have he' : e = .returned (.tuple #[.agg (mcl_2 acM ncM capcM ahM nhM caphM afM nfM capfM), .slice aopM σM.pool.length cappM]) := he; subst he'; have HBDM := hidIt hbd; have HREM := hidIt hrec; have HKM := hidIt hk; have HPOM := hidIt hpo; have HMLM := hidIt hml; clear he hq hbd hrec hk hpo hml) | (refine wpList_store_row rfl 38 _ _ rfl gm (mcl_2 acM ncM capcM ahM nhM caphM afM nfM capfM) rfl rfl 38 _ (HR.out.same HKM.out (by decide) _ _ HMB.out) (by kernel_rfl) rfl (by simp [Value.oneCell']) ?_))
    have S1 : Hid (∀ T, T ≠ 60 → Same T WEC wnM) := fun T hT => HR.out.same HKM.out hT
    have Y1 := hidIt (S1.out _ (by decide) _ _ HMB.out)
    have P1 := hidIt ((Pres.body (b := gm + 1) HR.out HKM.out).trans (Pres.row (cs := (mcl_2 acM ncM capcM ahM nhM caphM afM nfM capfM)) Y1.out (Nat.lt_succ_self _)))
    have P0 := hidIt (Pres.row (b := gm + 1) (cs := (mcl_2 acM ncM capcM ahM nhM caphM afM nfM capfM)) Y1.out (Nat.lt_succ_self _))
    have Z1 : Hid (∀ (g : Nat) (cur : Array Value), wnM.heap[g]? = some (.cells cur 43 (0, 0)) → (wnM.setRow gm (mcl_2 acM ncM capcM ahM nhM caphM afM nfM capfM)).heap[g]? = some (.cells cur 43 (0, 0))) := fun g cur hg => (setRow_other _ _ _ _ (other_block hg Y1.out (by decide))).trans hg
    have HX0' := hidIt (Z1.out _ _ (S1.out _ (by decide) _ _ HX0.out))
    have HMB' := hidIt (setRow_heap wnM gm _ (mcl_2 acM ncM capcM ahM nhM caphM afM nfM capfM) _ _ Y1.out)
    have HR' := hidIt (HREM.out.row (k := gm) (cs := (mcl_2 acM ncM capcM ahM nhM caphM afM nfM capfM)) hgm)
    have HB' := hidIt (below_row (cs := (mcl_2 acM ncM capcM ahM nhM caphM afM nfM capfM)) (below_kq HB.out HR.out HKM.out) (Nat.le_of_lt hgm))
    have HPOM' := hidIt (And.intro (own_same HPOM.out.1 (P0.out.1 _ (by decide) (by decide) (by decide))) HPOM.out.2)
    have HMLM' := hidIt (HMLM.out.same (P0.out.1 _ (by decide) (by decide) (by decide)) (P0.out.1 _ (by decide) (by decide) (by decide)) (P0.out.1 _ (by decide) (by decide) (by decide)) (P0.out.1 _ (by decide) (by decide) (by decide)))
    have HCA' := hidIt (Z1.out _ _ (S1.out _ (by decide) _ _ HCA.out))
    have HLA' := hidIt (HLA.out.pres P1.out)
    have HCB' := hidIt (Z1.out _ _ (S1.out _ (by decide) _ _ HCB.out))
    have HLB' := hidIt (HLB.out.pres P1.out)
    have HCT' := hidIt (Z1.out _ _ (S1.out _ (by decide) _ _ HCT.out))
    have HLT' := hidIt (HLT.out.pres P1.out)
    clear k2 HBO S1 Y1 P1 P0 Z1 HKM HREM HX0 HMB HR HB HPOM HMLM HCA HCB HCT HLA HLB HLT
    have HX0 := HX0'
    clear HX0'
    have HMB := HMB'
    clear HMB'
    have HR := HR'
    clear HR'
    have HB := HB'
    clear HB'
    have HPOM := HPOM'
    clear HPOM'
    have HMLM := HMLM'
    clear HMLM'
    have HCA := HCA'
    clear HCA'
    have HCB := HCB'
    clear HCB'
    have HCT := HCT'
    clear HCT'
    have HLA := HLA'
    clear HLA'
    have HLB := HLB'
    clear HLB'
    have HLT := HLT'
    clear HLT'
    generalize wnM.setRow gm (mcl_2 acM ncM capcM ahM nhM caphM afM nfM capfM) = WB at *
    have HLE := (body_made HBDM.out (by simp)).good.pool
    have HBO := hidIt (body_calc pr (.slice aopM σM.pool.length cappM) σM.pool WB HR.out HPOM.out.1 HLE HPOM.out.2)
    clear HLE
    go_upto_region 18 with (go_at_call 16; refine HBO.out.mono ?_; intro e wnN hq; obtain ⟨σN, acN, ncN, capcN, ahN, nhN, caphN, afN, nfN, capfN, aopN, cappN, hbd, he, hrec, hk, hpo, hml⟩ := BodyQ.parts (k := .calc) hq; have he' : e = .returned (.tuple #[.agg (mcl_1 acN ncN capcN ahN nhN caphN afN nfN capfN), .slice aopN σN.pool.length cappN]) := he; subst he'; have HBDN := hidIt hbd; have HREN := hidIt hrec; have HKN := hidIt hk; have HPON := hidIt hpo; have HMLN := hidIt hml; clear he hq hbd hrec hk hpo hml)
    have BN := hidIt (below_alloc wnN (.cells (mcl_1 acN ncN capcN ahN nhN caphN afN nfN capfN) 38))
    have PN := hidIt ((Pres.body (b := gm + 1) HR.out HKN.out).trans (Pres.below BN.out))
    have SN : Hid (∀ T, T ≠ 60 → Same T WB (wnN.alloc (.cells (mcl_1 acN ncN capcN ahN nhN caphN afN nfN capfN) 38))) := fun T hT => (HR.out.same HKN.out hT).trans (Same.of_below BN.out)
    have HNB := hidIt (heap_alloc_new wnN (.cells (mcl_1 acN ncN capcN ahN nhN caphN afN nfN capfN) 38))
    have HX0' := hidIt (SN.out _ (by decide) _ _ HX0.out)
    have HMB' := hidIt (SN.out _ (by decide) _ _ HMB.out)
    have HR' := hidIt (HREN.out.below BN.out)
    have HB' := hidIt ((below_kq HB.out HR.out HKN.out).trans (BN.out.mono (Nat.le_of_lt HREN.out.lt)))
    have HPON' := hidIt (And.intro (own_same HPON.out.1 (Same.of_below BN.out)) HPON.out.2)
    have HMLN' := hidIt (HMLN.out.same (Same.of_below BN.out) (Same.of_below BN.out) (Same.of_below BN.out) (Same.of_below BN.out))
    have HMLM' := hidIt (HMLM.out.same (SN.out _ (by decide)) (SN.out _ (by decide)) (SN.out _ (by decide)) (SN.out _ (by decide)))
    have HCA' := hidIt (SN.out _ (by decide) _ _ HCA.out)
    have HLA' := hidIt (HLA.out.pres PN.out)
    have HCB' := hidIt (SN.out _ (by decide) _ _ HCB.out)
    have HLB' := hidIt (HLB.out.pres PN.out)
    have HCT' := hidIt (SN.out _ (by decide) _ _ HCT.out)
    have HLT' := hidIt (HLT.out.pres PN.out)
    clear HBO HPOM PN SN BN HKN HREN HX0 HMB HR HB HPON HMLN HMLM HCA HCB HCT HLA HLB HLT
    have HX0 := HX0'
    clear HX0'
    have HMB := HMB'
    clear HMB'
    have HR := HR'
    clear HR'
    have HB := HB'
    clear HB'
    have HPON := HPON'
    clear HPON'
    have HMLN := HMLN'
    clear HMLN'
    have HMLM := HMLM'
    clear HMLM'
    have HCA := HCA'
    clear HCA'
    have HCB := HCB'
    clear HCB'
    have HCT := HCT'
    clear HCT'
    have HLA := HLA'
    clear HLA'
    have HLB := HLB'
    clear HLB'
    have HLT := HLT'
    clear HLT'
    generalize wnN.alloc (.cells (mcl_1 acN ncN capcN ahN nhN caphN afN nfN capfN) 38) = WF at *
    generalize wnN.heap.size = gn at *
    have e2 := cell_row HX0.out 2 (v := .slice none 0 0) rfl
    have ef := frozen_row HX0.out
    go_upto_region 19 with (fail)
    have HX2 : Hid ((WF.setCell ⟨gC, 2, none⟩ (.slice aopN σN.pool.length cappN)).heap[gC]? = some (.cells #[.string ⟨#[77, 97, 105, 110]⟩, .string ⟨#[79, 98, 106, 101, 99, 116]⟩, .slice aopN σN.pool.length cappN, .slice none 0 0, .slice none 0 0] 43 (0, 0))) := by
      show _ = _
      rw [set_row HX0.out]; rfl
    have P2 := hidIt (Pres.set (b := gm + 1) (o := 2) (u := .slice aopN σN.pool.length cappN) HX0.out)
    have HMB2 := hidIt (Same.of_set (o := 2) (u := .slice aopN σN.pool.length cappN) HX0.out (by decide) _ _ HMB.out)
    have HNB2 := hidIt (Same.of_set (o := 2) (u := .slice aopN σN.pool.length cappN) HX0.out (by decide) _ _ HNB.out)
    have HR2 := hidIt (HR.out.other (k := gC) (o := 2) (u := .slice aopN σN.pool.length cappN) hgC)
    have HB2 := hidIt (below_set (o := 2) (u := .slice aopN σN.pool.length cappN) HB.out (Nat.le_of_lt hgC))
    have HCA2 := hidIt ((Below.heap_setCell WF ⟨gC, 2, none⟩ (.slice aopN σN.pool.length cappN) _ (by show gA ≠ gC; omega)).trans HCA.out)
    have HCB2 := hidIt ((Below.heap_setCell WF ⟨gC, 2, none⟩ (.slice aopN σN.pool.length cappN) _ (by show gB ≠ gC; omega)).trans HCB.out)
    have HCT2 := hidIt ((Below.heap_setCell WF ⟨gC, 2, none⟩ (.slice aopN σN.pool.length cappN) _ (by show gT ≠ gC; omega)).trans HCT.out)
    generalize WF.setCell ⟨gC, 2, none⟩ (.slice aopN σN.pool.length cappN) = WG at *
    clear e2 ef HX0 HMB HNB HR HB HCA HCB HCT
    have e4 := cell_row HX2.out 4 (v := .slice none 0 0) rfl
    have m0 := cell_row HMB2.out 0 rfl
    have n0 := cell_row HNB2.out 0 rfl
    have m1 := cell_row HMB2.out 1 rfl
    have n1 := cell_row HNB2.out 1 rfl
    have m2 := cell_row HMB2.out 2 rfl
    have n2 := cell_row HNB2.out 2 rfl
    have m3 := cell_row HMB2.out 3 rfl
    have n3 := cell_row HNB2.out 3 rfl
    have m4 := cell_row HMB2.out 4 rfl
    have n4 := cell_row HNB2.out 4 rfl
    have m5 := cell_row HMB2.out 5 rfl
    have n5 := cell_row HNB2.out 5 rfl
    have m6 := cell_row HMB2.out 6 rfl
    have n6 := cell_row HNB2.out 6 rfl
    have m7 := cell_row HMB2.out 7 rfl
    have n7 := cell_row HNB2.out 7 rfl
    have m8 := cell_row HMB2.out 8 rfl
    have n8 := cell_row HNB2.out 8 rfl
    have hmz := (Array.getElem?_eq_some_iff.1 HMB2.out).1
    go_upto_region 20 with (at_builtin; refine wpList_mappend rfl _ _ rfl (gm + 1) (.slice none 0 0) 0 [] #[.string ⟨#[109, 97, 105, 110]⟩, .string ⟨#[40, 41, 86]⟩, .bool true, .bool false, .int .i64 16, .int .i64 10, .slice acM ncM capcM, .slice ahM nhM caphM, .slice afM nfM capfM, .string ⟨#[99, 97, 108, 99]⟩, .string ⟨#[40, 73, 73, 41, 73]⟩, .bool true, .bool false, .int .i64 16, .int .i64 4, .slice acN ncN capcN, .slice ahN nhN caphN, .slice afN nfN capfN].toList WG.heap.size 2 rfl rfl (own_empty _ _ _ _) (heap_alloc_new WG _) rfl (one9 rfl) (by omega) (by omega) (by omega) (by simp; omega) ?_; intro v5 w5 ho5 hg5; obtain ⟨ao5, cap5, rfl⟩ := own_slice ho5; have B5 := hidIt ((below_alloc WG _).trans ((grown_none hg5).mono (by simp))); have HO5 := hidIt ho5; have HX5 := hidIt (Same.of_below B5.out _ _ HX2.out); have e4' := cell_row HX5.out 4 (v := .slice none 0 0) rfl; have ef' := frozen_row HX5.out; clear ho5 hg5)
    have P5 := hidIt (Pres.below (b := gm + 1) B5.out)
    have P6 := hidIt (Pres.set (b := gm + 1) (o := 4) (u := .slice ao5 2 cap5) HX5.out)
    have HCC : Hid ((w5.setCell ⟨gC, 4, none⟩ (.slice ao5 2 cap5)).heap[gC]? = some (.cells #[.string ⟨#[77, 97, 105, 110]⟩, .string ⟨#[79, 98, 106, 101, 99, 116]⟩, .slice aopN σN.pool.length cappN, .slice none 0 0, .slice ao5 2 cap5] 43 (0, 0))) := by
      show _ = _
      rw [set_row HX5.out]; rfl
    have HB := hidIt (below_set (o := 4) (u := .slice ao5 2 cap5) (HB2.out.trans (B5.out.mono (by have := HR2.out.lt; omega))) (Nat.le_of_lt hgC))
    have HRZ := hidIt (Nat.lt_of_lt_of_le HR2.out.lt B5.out.size)
    have P7 := hidIt ((P2.out.trans P5.out).trans P6.out)
    have HO6 := hidIt (own_same HO5.out (Same.of_set (o := 4) (u := .slice ao5 2 cap5) HX5.out (by decide)))
    have HLC : Hid (CLies (w5.setCell ⟨gC, 4, none⟩ (.slice ao5 2 cap5)) (gm + 1) #[.string ⟨#[77, 97, 105, 110]⟩, .string ⟨#[79, 98, 106, 101, 99, 116]⟩, .slice aopN σN.pool.length cappN, .slice none 0 0, .slice ao5 2 cap5] ⟨#[77, 97, 105, 110]⟩ ⟨#[79, 98, 106, 101, 99, 116]⟩ [] σN.pool [(.main, σM), (.calc, σN)]) := by
      refine ⟨_, _, _, rfl, ⟨own_same HPON.out.1 (P7.out.1 _ (by decide) (by decide) (by decide)), HPON.out.2⟩, Or.inl ⟨rfl, rfl⟩, [(mcl_2 acM ncM capcM ahM nhM caphM afM nfM capfM), (mcl_1 acN ncN capcN ahN nhN caphN afN nfN capfN)], rfl, ?_, ?_⟩
      · exact HO6.out
      · intro j m r hm hr
        rcases j with _ | _ | j
        · simp at hm hr; subst hm; subst hr
          exact (HMLM.out.wk (Nat.zero_le _)).same (P7.out.1 _ (by decide) (by decide) (by decide)) (P7.out.1 _ (by decide) (by decide) (by decide)) (P7.out.1 _ (by decide) (by decide) (by decide)) (P7.out.1 _ (by decide) (by decide) (by decide))
        · simp at hm hr; subst hm; subst hr
          exact (HMLN.out.wk (Nat.zero_le _)).same (P7.out.1 _ (by decide) (by decide) (by decide)) (P7.out.1 _ (by decide) (by decide) (by decide)) (P7.out.1 _ (by decide) (by decide) (by decide)) (P7.out.1 _ (by decide) (by decide) (by decide))
        · simp at hm
    have HCA := hidIt ((Below.heap_setCell w5 ⟨gC, 4, none⟩ (.slice ao5 2 cap5) _ (by show gA ≠ gC; omega)).trans (Same.of_below B5.out _ _ HCA2.out))
    have HLA' := hidIt (HLA.out.pres P7.out)
    have HCB := hidIt ((Below.heap_setCell w5 ⟨gC, 4, none⟩ (.slice ao5 2 cap5) _ (by show gB ≠ gC; omega)).trans (Same.of_below B5.out _ _ HCB2.out))
    have HLB' := hidIt (HLB.out.pres P7.out)
    have HCT := hidIt ((Below.heap_setCell w5 ⟨gC, 4, none⟩ (.slice ao5 2 cap5) _ (by show gT ≠ gC; omega)).trans (Same.of_below B5.out _ _ HCT2.out))
    have HLT' := hidIt (HLT.out.pres P7.out)
    have hsz : (w5.setCell ⟨gC, 4, none⟩ (.slice ao5 2 cap5)).heap.size = w5.heap.size := by simp
    have HSZ := hidIt hsz
    clear hsz
    generalize w5.setCell ⟨gC, 4, none⟩ (.slice ao5 2 cap5) = WZ at *
    clear e4 e4' ef' m0 m1 m2 m3 m4 m5 m6 m7 m8 n0 n1 n2 n3 n4 n5 n6 n7 n8 hmz B5 HO5 HO6 HX2 HX5 HMB2 HNB2 HR2 HB2 P2 P5 P6 P7 HPON HMLN HMLM HCA2 HLA HCB2 HLB HCT2 HLT
    have HLA := HLA'
    clear HLA'
    have HLB := HLB'
    clear HLB'
    have HLT := HLT'
    clear HLT'
    have cA0 := cell_row HCA.out 0 rfl
    have cA1 := cell_row HCA.out 1 rfl
    have cA2 := cell_row HCA.out 2 rfl
    have cA3 := cell_row HCA.out 3 rfl
    have cA4 := cell_row HCA.out 4 rfl
    have cB0 := cell_row HCB.out 0 rfl
    have cB1 := cell_row HCB.out 1 rfl
    have cB2 := cell_row HCB.out 2 rfl
    have cB3 := cell_row HCB.out 3 rfl
    have cB4 := cell_row HCB.out 4 rfl
    have cT0 := cell_row HCT.out 0 rfl
    have cT1 := cell_row HCT.out 1 rfl
    have cT2 := cell_row HCT.out 2 rfl
    have cT3 := cell_row HCT.out 3 rfl
    have cT4 := cell_row HCT.out 4 rfl
    have cC0 := cell_row HCC.out 0 rfl
    have cC1 := cell_row HCC.out 1 rfl
    have cC2 := cell_row HCC.out 2 rfl
    have cC3 := cell_row HCC.out 3 rfl
    have cC4 := cell_row HCC.out 4 rfl
    go_wp2_with fail
    go_ret
    unfold ClassesG
    rw [HPR.out]
    have hzz := HRZ.out
    rw [← HSZ.out] at hzz
    refine ⟨WZ.heap.size, _, _, _, _, σA, none, σT, σM, σN, ⟨HBDA.out, hob, HBDT.out, HBDM.out, HBDN.out⟩, rfl, Nat.le_of_lt hzz, heap_alloc_new WZ _, HB.out.trans ((below_alloc WZ _).mono (Nat.le_of_lt hzz)), (HLA.out.wk (by omega)).pres (Pres.below (below_alloc WZ _)), (HLB.out.wk (by omega)).pres (Pres.below (below_alloc WZ _)), (HLT.out.wk (by omega)).pres (Pres.below (below_alloc WZ _)), (HLC.out.wk (by omega)).pres (Pres.below (below_alloc WZ _))⟩
theorem classes_any (v : Value) (rl : List Int) (w : World) (hv : NV w.heap.size w.heap.size w v rl) : Calls Try.prog 9 #[v] w fun e w' => ClassesQ w e w' :=
  (classes_g v rl w hv).mono fun _ _ h => h.q
end Go.Proofs.Ytlnapfeglbdecaa.M
