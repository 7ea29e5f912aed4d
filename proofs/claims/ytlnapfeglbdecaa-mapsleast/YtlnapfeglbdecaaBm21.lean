/- Texts MBd. -/
import Derived.Test.YtlnapfeglbdecaaBm14
import Derived.Test.YtlnapfeglbdecaaBm18
import Derived.Test.YtlnapfeglbdecaaBm20
import Derived.Test.YtlnapfeglbdecaaBm05
namespace Go.Proofs.Ytlnapfeglbdecaa.M
open Go.RowKit

abbrev mbd_0 (a0) (a1) (a2) (a3) (a4) (a5) (a6) (a7) (a8) := (#[.string ⟨#[99, 97, 108, 99]⟩, .string ⟨#[40, 73, 73, 41, 73]⟩, .bool true, .bool false, .int .i64 16, .int .i64 4, .slice a0 a1 a2, .slice a3 a4 a5, .slice a6 a7 a8] : Array Value)
abbrev mbd_1 (a0) (a1) (a2) (a3) := (#[.pointer (some ⟨a0, 0, none⟩), .slice a1 a2 a3, .slice none 0 0, .int .i64 0, .bool false, .int .i64 110, .int .i64 0, .slice none 0 0, .slice none 0 0, .slice none 0 0] : Array Value)
abbrev mbd_2 (a0) (a1) (a2) (a3) := (#[.pointer (some ⟨a0, 0, none⟩), .slice a1 a2 a3, .slice none 0 0, .int .i64 0, .bool true, .int .i64 110, .int .i64 0, .slice none 0 0, .slice none 0 0, .slice none 0 0] : Array Value)
abbrev mbd_3 (a0) (a1) (a2) (a3) (a4) (a5) (a6) (a7) (a8) := (#[.string ⟨#[109, 97, 105, 110]⟩, .string ⟨#[40, 41, 86]⟩, .bool true, .bool false, .int .i64 16, .int .i64 10, .slice a0 a1 a2, .slice a3 a4 a5, .slice a6 a7 a8] : Array Value)
abbrev mbd_4 (a0) (a1) (a2) (a3) (a4) (a5) (a6) (a7) (a8) := (#[.string ⟨#[114, 117, 110]⟩, .string ⟨#[40, 41, 86]⟩, .bool false, .bool false, .int .i64 16, .int .i64 10, .slice a0 a1 a2, .slice a3 a4 a5, .slice a6 a7 a8] : Array Value)
abbrev mbd_5 (a0) (a1) (a2) (a3) (a4) (a5) (a6) (a7) (a8) := (#[.string ⟨#[103, 111]⟩, .string ⟨#[40, 73, 41, 73]⟩, .bool false, .bool false, .int .i64 16, .int .i64 10, .slice a0 a1 a2, .slice a3 a4 a5, .slice a6 a7 a8] : Array Value)
abbrev mbd_6 := (#[.string ⟨#[]⟩, .string ⟨#[]⟩, .bool false, .bool false, .int .i64 0, .int .i64 0, .slice none 0 0, .slice none 0 0, .slice none 0 0] : Array Value)

def MLies (w : World) (b : Nat) (k : BK) (σ : SG) (row : Array Value) : Prop := ∃ vc vh vf fs, row = #[.string k.nm, .string k.ds, .bool k.st, .bool false, .int .i64 16, .int .i64 ((kinds k.pl).length : Nat), vc, vh, vf] ∧ w.ownsRow b 5 1 vc (encL (codeZ σ) []).1.length (bcells (encL (codeZ σ) []).1) ∧ w.ownsRow b 55 4 vh (handsZ σ).length (hcells (handsZ σ)) ∧ w.ownsRow b 118 3 vf fs.length (fcells fs) ∧ FRs k.pl w fs (framesZ σ)
def BodyQ (k : BK) (pool : List CD) (pr : Nat) (w : World) (e : Ending) (w' : World) : Prop := ∃ σ row vp, BodyIs k pool σ ∧ e = .returned (.tuple #[.agg row, vp]) ∧ RecIs pr w' ∧ Kq w.heap.size pr w w' ∧ w'.ownsRow 0 99 5 vp σ.pool.length (ccells σ.pool) ∧ (∀ x ∈ σ.pool, P3.CD.Ok x) ∧ MLies w' w.heap.size k σ row
theorem op_store_row {P : Program} {ops : Array Oper} {o : Oper} {a : Act} {w : World} {K : Act → World → Prop} {Q : Exit → Act → World → Prop} {E : Prop} (hgd : o.guard = none) (ty : TypeId) (x y : Operand) (ho : o.op = .store ty x y)
    (g : Nat) (cells : Array Value) (hx : a.eval x = .pointer (some ⟨g, 0, none⟩)) (hy : a.eval y = .agg cells)
    (t : TypeId) (old : Array Value) (hg : w.heap[g]? = some (.cells old t (0, 0))) (hi : (P.info? ty).map (·.size) = some cells.size)
    (hold : old.size = cells.size) (h1 : cells.all (·.oneCell') = true) (h : K (a.put o.dst undef) (w.setRow g cells)) :
    if Region.wanted o (yielded ops a.tmps) = true then Oper.wp P o a w K Q else E := by
  rw [if_pos (by simp [Region.wanted, hgd])]
  exact wp_store_row ty x y ho g cells hx hy t old hg hi hold h1 h
theorem results_rowb {fn : Func} {p t1 : Tmp} {ty : TypeId} (h : fn.results = #[.cell p ty, .tmp t1]) (tmps : Array Value) (w : World) (g : Nat) (t : TypeId) (cs : Array Value) (fr : Nat × Nat) (d : TypeDesc)
    (hp : tmps.getD p undef = .pointer (some ⟨g, 0, none⟩)) (hg : w.heap[g]? = some (.cells cs t fr))
    (hu : Try.prog.underlying ty = some d) (hd : (match d with | .struct _ | .array _ _ => true | _ => false) = true) (hi : (Try.prog.info? ty).map (·.size) = some cs.size) :
    (results fn tmps).run Try.prog w = .ok (.tuple #[.agg cs, tmps.getD t1 undef]) w := by
  have hp' : tmps[p]?.getD undef = .pointer (some ⟨g, 0, none⟩) := by simpa using hp
  have hL := run_loadVar_row (P := Try.prog) w g t ty cs fr d hg hu (by cases d <;> simp_all) hi
  simp [results, h, hp', asAddr, hL, Result.andThen]
def HS22 (g pm : Nat) (x0 x1 x2 x3 x4 x5 x6 x7 x8 y : Value) (W : World) : Prop := W.cell? ⟨g, 0, none⟩ = some x0 ∧ W.cell? ⟨g, 1, none⟩ = some x1 ∧ W.cell? ⟨g, 2, none⟩ = some x2 ∧ W.cell? ⟨g, 3, none⟩ = some x3 ∧ W.cell? ⟨g, 4, none⟩ = some x4 ∧ W.cell? ⟨g, 5, none⟩ = some x5 ∧ W.cell? ⟨g, 6, none⟩ = some x6 ∧ W.cell? ⟨g, 7, none⟩ = some x7 ∧ W.cell? ⟨g, 8, none⟩ = some x8 ∧ W.cell? ⟨pm, 1, none⟩ = some y
theorem HS22.of {g pm : Nat} {x0 x1 x2 x3 x4 x5 x6 x7 x8 y : Value} {W : World} (h : W.heap[g]? = some (.cells #[x0, x1, x2, x3, x4, x5, x6, x7, x8] 38 (0, 0))) (k : W.cell? ⟨pm, 1, none⟩ = some y) : HS22 g pm x0 x1 x2 x3 x4 x5 x6 x7 x8 y W :=
  ⟨cell_row h 0 rfl, cell_row h 1 rfl, cell_row h 2 rfl, cell_row h 3 rfl, cell_row h 4 rfl, cell_row h 5 rfl, cell_row h 6 rfl, cell_row h 7 rfl, cell_row h 8 rfl, k⟩
theorem mk_start (pr : Nat) (vp : Value) (pool : List CD) (w W : World) (pl : Bool) (hr : RecIs pr w) (hp : w.ownsRow 0 99 5 vp pool.length (ccells pool)) (hpl : pool.length ≤ 256) (hok : ∀ x ∈ pool, P3.CD.Ok x) (pm : Nat) (hpm : w.heap.size ≤ pm) (hb : Below w.heap.size w W)
    (hm : W.heap[pm]? = some (.cells #[.pointer (some ⟨pr, 0, none⟩), vp, .slice none 0 0, .int .i64 0, .bool pl, .int .i64 110, .int .i64 0, .slice none 0 0, .slice none 0 0, .slice none 0 0] 86 (0, 0))) : Mk pm pr pm 300 0 pl (s0 pool) W := by
  obtain ⟨vr, rl, at_, h1, h2, h3⟩ := hr
  have hpr := (Array.getElem?_eq_some_iff.1 h1).1
  refine ⟨⟨vr, rl, at_, vp, pool, .slice none 0 0, [], .slice none 0 0, [], .slice none 0 0, [], 0, 110, 0, pl⟩, ⟨hm, (hb.block pr hpr).trans h1, (h2.kq (Kq.of_below hb (Nat.le_refl _))).mono hpm, own_same hp (Same.of_below hb), own_empty _ _ _ _, own_empty _ _ _ _, own_empty _ _ _ _, Nat.le_refl _, by omega, h3⟩, ⟨rfl, rfl, Nat.zero_le _, Nat.zero_le _, by simp only; omega, Nat.zero_le _, Nat.zero_le _, by simp only; omega, by simp only; omega, hok⟩, rfl⟩
theorem MLies.same {w w' : World} {b : Nat} {k : BK} {σ : SG} {row : Array Value} (h : MLies w b k σ row) (s5 : Same 5 w w') (sh : Same 55 w w') (sf : Same 118 w w') (ss : Same 9 w w') : MLies w' b k σ row := by
  obtain ⟨vc, vh, vf, fs, e, h1, h2, h3, h4⟩ := h
  exact ⟨vc, vh, vf, fs, e, own_same h1 s5, own_same h2 sh, own_same h3 sf, h4.same ss⟩
theorem MLies.wk {w : World} {b b' : Nat} {k : BK} {σ : SG} {row : Array Value} (h : MLies w b k σ row) (hb : b' ≤ b) : MLies w b' k σ row := by
  obtain ⟨vc, vh, vf, fs, e, h1, h2, h3, h4⟩ := h
  exact ⟨vc, vh, vf, fs, e, own_wk h1 hb, own_wk h2 hb, own_wk h3 hb, h4⟩
theorem DoneQ.parts {k : BK} {σ : SG} {w w' : World} {e : Ending} (h : DoneQ k.pl k.st k.nm k.ds σ w e w') : ∃ ac nc capc ah nh caph af nf capf, e = .returned (.agg #[.string k.nm, .string k.ds, .bool k.st, .bool false, .int .i64 16, .int .i64 ((kinds k.pl).length : Nat), .slice ac nc capc, .slice ah nh caph, .slice af nf capf]) ∧ Below w.heap.size w w' ∧ MLies w' w.heap.size k σ #[.string k.nm, .string k.ds, .bool k.st, .bool false, .int .i64 16, .int .i64 ((kinds k.pl).length : Nat), .slice ac nc capc, .slice ah nh caph, .slice af nf capf] := by
  obtain ⟨vc, vh, vf, fs, rfl, hbd, ⟨b, hb0, hc⟩, hh, hf, hfr⟩ := h
  obtain ⟨ac, capc, rfl⟩ := own_slice hc
  obtain ⟨ah, caph, rfl⟩ := own_slice hh
  obtain ⟨af, capf, rfl⟩ := own_slice hf
  exact ⟨ac, _, capc, ah, _, caph, af, _, capf, rfl, hbd, _, _, _, fs, rfl, own_wk hc hb0, hh, hf, hfr⟩
theorem some_six : SomeL 0 6 245520 := fun B pr pm n pl σ w hm hn => by
  have h := some_any 0 40920 one_all B pr pm n pl σ 6 w hm (by omega) (by omega) (by rw [show (6 : Int).toNat * 40920 = 245520 from rfl]; exact hn)
  rw [show (6 : Int).toNat * 40920 = 245520 from rfl] at h
  exact h
theorem Kq.weak {B B' pr : Nat} {w w' : World} (h : Kq B pr w w') (hB : B' ≤ B) : Kq B' pr w w' := ⟨h.os, h.tape, h.output, h.size, fun k hk hp => h.block k (by omega) hp⟩
theorem kq_sets {pr g T : Nat} {w w1 w' : World} {cs : Array Value} (h : Kq g pr w w1) (hs : SetsTo g T w1.drew w' cs) : Kq g pr w w' := by
  have hb := hs.2.2 g w1.drew (Nat.le_refl _) (Below.refl _ _)
  exact ⟨hb.os.trans h.os, hb.tape.trans h.tape, hb.output.trans h.output, Nat.le_trans h.size hb.size, fun k hk hp => (hb.block k hk).trans (h.block k hk hp)⟩
theorem body_end {k : BK} {pool : List CD} {σ : SG} {pr pm n : Nat} {w W2 wn W : World} {ao : Option Addr} {cap : Nat} {row : Array Value} (hpr : pr < w.heap.size) (hB : BodyIs k pool σ) (hw : Below w.heap.size w W2) (hpm : w.heap.size ≤ pm) (HM : Mk pm pr pm n 0 k.pl σ wn) (HK : Kq pm pr W2 wn) (hS : ∀ T, T ≠ 38 → Same T wn W) (hK : Kq w.heap.size pr wn W) (hL : MLies W w.heap.size k σ row)
    (hv : wn.cell? ⟨pm, 1, none⟩ = some (.slice ao σ.pool.length cap)) :
    BodyQ k pool pr w (.returned (.tuple #[.agg row, .slice ao σ.pool.length cap])) W := by
  obtain ⟨s, HP, HB, rfl⟩ := HM
  have hz := HP.lt
  have e : s.vp = .slice ao s.pool.length cap := by
    have := cell_row HP.blk 1 (v := s.vp) rfl
    rw [this] at hv
    exact Option.some.inj hv
  have hK2 := (HK.weak hpm).trans hK
  refine ⟨_, row, _, hB, rfl, ⟨s.vr, s.rl, s.at_, hS _ (by decide) _ _ HP.rec_, ?_, HP.at_le⟩, (Kq.of_below hw (Nat.le_refl _)).trans hK2, ?_, HB.small, hL⟩
  · obtain ⟨ao', cap', e1, hc, hm, hx, hl⟩ := HP.rl
    refine ⟨ao', cap', e1, hc, hm, hx, ?_⟩
    rcases hl with h | ⟨g, off, e2, hg, hp, hl⟩
    · exact .inl h
    · exact .inr ⟨g, off, e2, by have := hK.size; omega, hp, fun j x hj => (World.cell?_of_block (a := ⟨g, off + j, none⟩) (hK.block g (by omega) (Nat.ne_of_lt hp))).trans (hl j x hj)⟩
  · have := own_same HP.p (hS _ (by decide))
    rw [e] at this
    exact this
set_option maxRecDepth 8000 in
set_option maxHeartbeats 20000000 in
theorem body_go (pr : Nat) (vp : Value) (pool : List CD) (w : World) (hr : RecIs pr w) (hp : w.ownsRow 0 99 5 vp pool.length (ccells pool)) (hpl : pool.length ≤ 256) (hok : ∀ x ∈ pool, P3.CD.Ok x) :
    Calls Try.prog 16 #[.pointer (some ⟨pr, 0, none⟩), vp, .string ⟨#[103, 111]⟩, .string ⟨#[40, 73, 41, 73]⟩, .bool false, .bool false, .bool true, .int .i64 2] w fun e w' => BodyQ .go pool pr w e w' := by
  obtain ⟨aop, capp, rfl⟩ := own_slice hp
  have hpr : pr < w.heap.size := by obtain ⟨_, _, _, h1, _⟩ := hr; exact (Array.getElem?_eq_some_iff.1 h1).1
  have SO := hidIt some_six
  have NU := hidIt (nums_all).n2
  have HM0 := hidIt (fun W pm (h1 : w.heap.size ≤ pm) (h2 : Below w.heap.size w W) h3 => mk_start pr _ pool w W false hr hp hpl hok pm h1 h2 h3)
  clear hr hp hok
  go_enter Try.func16, Try.ntmps16
  go_upto_region 2 with (fail)
  have HQ0 : Hid (((w.alloc (.cells mbd_6 38)).alloc (.cells (mbd_1 pr aop pool.length capp) 86)).heap[w.heap.size]? = some (.cells mbd_6 38 (0, 0))) := by
    show _ = _
    rw [(below_alloc _ _).block _ (by simp)]
    exact heap_alloc_new w _
  have HB : Hid (Below w.heap.size w ((w.alloc (.cells mbd_6 38)).alloc (.cells (mbd_1 pr aop pool.length capp) 86))) := (below_alloc w _).alloc (below_alloc w _).size _
  have HM := hidIt (HM0.out ((w.alloc (.cells mbd_6 38)).alloc (.cells (mbd_1 pr aop pool.length capp) 86)) (w.heap.size + 1) (Nat.le_succ _) HB.out (heap_new' (by simp)))
  clear HM0
  generalize ((w.alloc (.cells mbd_6 38)).alloc (.cells (mbd_1 pr aop pool.length capp) 86)) = W2 at *
  have hpm : w.heap.size < w.heap.size + 1 := Nat.lt_succ_self _
  generalize w.heap.size + 1 = pm at *
  have HK := hidIt (Kq.refl pm pr W2)
  go_upto_region 21 with (first | (go_at_call 27; refine (put_any _ pr _ _ _ _ _ _ _ _ _ HM.out (by omega)).mono ?_; rintro e wn ⟨rfl, hm, hk⟩; have HM2 := hidIt hm; have HK2 := hidIt (HK.out.trans hk); clear HM HK hk hm; have HM := HM2; have HK := HK2; clear HM2 HK2) | (go_at_call 28; refine (fill_go _ pr _ _ _ _ _ _ HM.out (by omega)).mono ?_; rintro e wn ⟨rfl, hm, hk⟩; have HM2 := hidIt hm; have HK2 := hidIt (HK.out.trans hk); clear HM HK hk hm; have HM := HM2; have HK := HK2; clear HM2 HK2) | (go_at_call 29; refine (SO.out _ pr _ _ _ _ _ HM.out (by omega)).mono ?_; rintro e wn ⟨rfl, σ1, hs1, hm, hk⟩; have HM2 := hidIt hm; have HK2 := hidIt (HK.out.trans hk); clear HM HK hk hm; have HM := HM2; have HK := HK2; clear HM2 HK2) | (go_at_call 30; refine (NU.out _ pr _ _ _ _ _ _ HM.out (by decide)).mono ?_; rintro e wn ⟨rfl, σ2, hs2, hm, hk⟩; have HM2 := hidIt hm; have HK2 := hidIt (HK.out.trans hk); clear HM HK hk hm; have HM := HM2; have HK := HK2; clear HM2 HK2))
  have hbd : BodyIs .go pool (σ2.put 172 0 0) := ⟨σ1, hs1, by rw [if_pos (show BK.gv .go = true from rfl)]; exact ⟨σ2, hs2, rfl⟩⟩
  have HBD := hidIt hbd
  have hmd := body_made hbd hpl
  have HDN := hidIt (done_any _ pr pm _ _ _ _ ⟨#[103, 111]⟩ ⟨#[40, 73, 41, 73]⟩ false _ HM.out hmd.refs (by omega) hmd.code hmd.lines (by have := hmd.lab; omega))
  have HQ1 := hidIt ((HK.out.block w.heap.size hpm (by omega)).trans HQ0.out)
  have HVP : Hid (∃ ao cap, wn.cell? ⟨pm, 1, none⟩ = some (.slice ao (σ2.put 172 0 0).pool.length cap)) := by
    obtain ⟨s, hP, -, hsg⟩ := HM.out
    obtain ⟨ao, cap, e⟩ := own_slice hP.p
    refine ⟨ao, cap, ?_⟩
    have := cell_row hP.blk 1 (v := s.vp) rfl
    rw [this, e, show s.pool = (σ2.put 172 0 0).pool from congrArg SG.pool hsg]
  clear hbd hmd hs1 hs2 SO NU HQ0
  generalize (σ2.put 172 0 0) = σF at *
  obtain ⟨aoq, capq, hvp⟩ := HVP.out
  clear HVP
  go_upto_region 22 with (go_at_call 31; refine HDN.out.mono ?_; intro e wd hq; obtain ⟨ac, nc, capc, ah, nh, caph, af, nf, capf, he, hbd, hli⟩ := DoneQ.parts (k := .go) hq; have he' : e = .returned (.agg (mbd_5 ac nc capc ah nh caph af nf capf)) := he; subst he'; have HBD2 := hidIt hbd; have HLI := hidIt hli; clear hbd hli he hq)
  have HSA : Hid (∀ T, Same T wn (wd.alloc (.cells (mbd_5 ac nc capc ah nh caph af nf capf) 38))) := fun T => (Same.of_below HBD2.out).trans (Same.of_below (below_alloc wd _))
  have HQA := hidIt (HSA.out _ _ _ HQ1.out)
  have hlp := cell_lt hvp
  have hva : (wd.alloc (.cells (mbd_5 ac nc capc ah nh caph af nf capf) 38)).cell? ⟨pm, 1, none⟩ = some (.slice aoq σF.pool.length capq) := ((below_alloc wd _).cell (Nat.lt_of_lt_of_le hlp HBD2.out.size)).trans ((HBD2.out.cell hlp).trans hvp)
  have SA := hidIt (HS22.of (heap_alloc_new wd (.cells (mbd_5 ac nc capc ah nh caph af nf capf) 38)) hva)
  have HBX := hidIt (HBD2.out.trans ((below_alloc wd (.cells (mbd_5 ac nc capc ah nh caph af nf capf) 38)).mono HBD2.out.size))
  have hgz : wd.heap.size ≠ w.heap.size := by have h1 := HBD2.out.size; have h2 := HK.out.size; have h3 := (Array.getElem?_eq_some_iff.1 HQ1.out).1; omega
  have HXA := hidIt (heap_alloc_new wd (.cells (mbd_5 ac nc capc ah nh caph af nf capf) 38))
  have HAD := hidIt (below_alloc wd (.cells (mbd_5 ac nc capc ah nh caph af nf capf) 38))
  generalize (wd.alloc (.cells (mbd_5 ac nc capc ah nh caph af nf capf) 38)) = WA at *
  have SB : Hid (HS22 wd.heap.size pm (.string ⟨#[103, 111]⟩) (.string ⟨#[40, 73, 41, 73]⟩) (.bool false) (.bool false) (.int .i64 16) (.int .i64 10) (.slice ac nc capc) (.slice ah nh caph) (.slice af nf capf) (.slice aoq σF.pool.length capq) WA.drew) := SA.out
  have HQB : Hid (WA.drew.heap[w.heap.size]? = some (.cells mbd_6 38 (0, 0))) := HQA.out
  have SC := hidIt (HS22.of (W := WA.drew.setRow w.heap.size (mbd_5 ac nc capc ah nh caph af nf capf)) ((setRow_other _ _ _ _ hgz).trans HXA.out) ((World.cell?_of_block (a := ⟨pm, 1, none⟩) (setRow_other _ _ _ _ (Nat.ne_of_gt hpm))).trans hva))
  have HZA := hidIt (SetsTo.row (cs := (mbd_5 ac nc capc ah nh caph af nf capf)) HQB.out)
  have HQ := HQB
  clear hva HXA
  refine wp_region_noPanic ?_
  refine wp_region_held_drew (S := (HS22 wd.heap.size pm (.string ⟨#[103, 111]⟩) (.string ⟨#[40, 73, 41, 73]⟩) (.bool false) (.bool false) (.int .i64 16) (.int .i64 10) (.slice ac nc capc) (.slice ah nh caph) (.slice af nf capf) (.slice aoq σF.pool.length capq))) (by kernel_rfl) ?_ (fun hHeld => ?_)
  · (try dsimp only); first | exact SA.out | exact SB.out | exact SC.out
  refine tH 0 ?vgo22_1 rfl rfl ?hygo22_1 ?restgo22_1
  case hygo22_1 => intro w hSw; (try dsimp only at hSw); go_simp; obtain ⟨S0, S1, S2, S3, S4, S5, S6, S7, S8, S9⟩ := hSw; go_simp; try with_reducible rfl
  try simp only [Act.put, sq1, sq2, sq3]
  refine tH 1 ?vgo22_2 rfl rfl ?hygo22_2 ?restgo22_2
  case hygo22_2 => intro w hSw; (try dsimp only at hSw); go_simp; try with_reducible rfl
  try simp only [Act.put, sq1, sq2, sq3]
  refine tH 2 ?vgo22_3 rfl rfl ?hygo22_3 ?restgo22_3
  case hygo22_3 => intro w hSw; (try dsimp only at hSw); go_simp; try with_reducible rfl
  try simp only [Act.put, sq1, sq2, sq3]
  refine tH 3 ?vgo22_4 rfl rfl ?hygo22_4 ?restgo22_4
  case hygo22_4 => intro w hSw; (try dsimp only at hSw); go_simp; try with_reducible rfl
  try simp only [Act.put, sq1, sq2, sq3]
  refine tH 4 ?vgo22_5 rfl rfl ?hygo22_5 ?restgo22_5
  case hygo22_5 => intro w hSw; (try dsimp only at hSw); go_simp; obtain ⟨S0, S1, S2, S3, S4, S5, S6, S7, S8, S9⟩ := hSw; go_simp; try with_reducible rfl
  try simp only [Act.put, sq1, sq2, sq3]
  refine oH 5 rfl (fun K hK => ?_)
  refine op_store_row rfl 38 _ _ rfl w.heap.size (mbd_5 ac nc capc ah nh caph af nf capf) rfl rfl 38 _ HQ.out (by kernel_rfl) rfl (by simp [Value.oneCell']) ?_
  refine hK.out _ _ ?hSgo22_6 ?restgo22_6
  case hSgo22_6 => (try dsimp only); first | exact SA.out | exact SB.out | exact SC.out
  clear hK K hHeld
  intro hHeld
  try simp only [Act.put]
  refine tH 6 ?vgo22_7 rfl rfl ?hygo22_7 ?restgo22_7
  case hygo22_7 => intro w hSw; (try dsimp only at hSw); go_simp; try with_reducible rfl
  try simp only [Act.put, sq1, sq2, sq3]
  refine eH ?_
  refine NoPanic.normal ?_
  generalize WA.drew.setRow w.heap.size (mbd_5 ac nc capc ah nh caph af nf capf) = WZ at *
  go_wp2_with fail
  refine bodyPost_ret (results_rowb rfl _ _ w.heap.size 38 _ (0, 0) _ rfl HZA.out.1 Try.underlying38 rfl (by kernel_rfl)) rfl ?_
  have HS9 : Hid (∀ T, T ≠ 38 → Same T wn WZ) := fun T hT => (Same.of_below HBX.out).trans (HZA.out.2.1 T hT)
  have HA9 : Hid (∀ T, Same T wd WA) := fun T => Same.of_below HAD.out
  have HL9 := HLI.out.wk (Nat.le_trans (Nat.le_of_lt (Array.getElem?_eq_some_iff.1 HQ1.out).1) (Nat.le_refl _))
  refine body_end hpr HBD.out HB.out (Nat.le_of_lt hpm) HM.out HK.out HS9.out ?_ ?_ hvp
  · exact kq_sets (Kq.of_below HBX.out (Nat.le_of_lt (Array.getElem?_eq_some_iff.1 HQ1.out).1)) HZA.out
  · exact HL9.same ((HA9.out _).trans (HZA.out.2.1 _ (by decide))) ((HA9.out _).trans (HZA.out.2.1 _ (by decide))) ((HA9.out _).trans (HZA.out.2.1 _ (by decide))) ((HA9.out _).trans (HZA.out.2.1 _ (by decide)))
set_option maxRecDepth 8000 in
set_option maxHeartbeats 20000000 in
theorem body_run (pr : Nat) (vp : Value) (pool : List CD) (w : World) (hr : RecIs pr w) (hp : w.ownsRow 0 99 5 vp pool.length (ccells pool)) (hpl : pool.length ≤ 256) (hok : ∀ x ∈ pool, P3.CD.Ok x) :
    Calls Try.prog 16 #[.pointer (some ⟨pr, 0, none⟩), vp, .string ⟨#[114, 117, 110]⟩, .string ⟨#[40, 41, 86]⟩, .bool false, .bool false, .bool false, .int .i64 1] w fun e w' => BodyQ .run pool pr w e w' := by
  obtain ⟨aop, capp, rfl⟩ := own_slice hp
  have hpr : pr < w.heap.size := by obtain ⟨_, _, _, h1, _⟩ := hr; exact (Array.getElem?_eq_some_iff.1 h1).1
  have SO := hidIt some_six
  have NU := hidIt (nums_all).n2
  have HM0 := hidIt (fun W pm (h1 : w.heap.size ≤ pm) (h2 : Below w.heap.size w W) h3 => mk_start pr _ pool w W false hr hp hpl hok pm h1 h2 h3)
  clear hr hp hok
  go_enter Try.func16, Try.ntmps16
  go_upto_region 2 with (fail)
  have HQ0 : Hid (((w.alloc (.cells mbd_6 38)).alloc (.cells (mbd_1 pr aop pool.length capp) 86)).heap[w.heap.size]? = some (.cells mbd_6 38 (0, 0))) := by
    show _ = _
    rw [(below_alloc _ _).block _ (by simp)]
    exact heap_alloc_new w _
  have HB : Hid (Below w.heap.size w ((w.alloc (.cells mbd_6 38)).alloc (.cells (mbd_1 pr aop pool.length capp) 86))) := (below_alloc w _).alloc (below_alloc w _).size _
  have HM := hidIt (HM0.out ((w.alloc (.cells mbd_6 38)).alloc (.cells (mbd_1 pr aop pool.length capp) 86)) (w.heap.size + 1) (Nat.le_succ _) HB.out (heap_new' (by simp)))
  clear HM0
  generalize ((w.alloc (.cells mbd_6 38)).alloc (.cells (mbd_1 pr aop pool.length capp) 86)) = W2 at *
  have hpm : w.heap.size < w.heap.size + 1 := Nat.lt_succ_self _
  generalize w.heap.size + 1 = pm at *
  have HK := hidIt (Kq.refl pm pr W2)
  go_upto_region 21 with (first | (go_at_call 27; refine (put_any _ pr _ _ _ _ _ _ _ _ _ HM.out (by omega)).mono ?_; rintro e wn ⟨rfl, hm, hk⟩; have HM2 := hidIt hm; have HK2 := hidIt (HK.out.trans hk); clear HM HK hk hm; have HM := HM2; have HK := HK2; clear HM2 HK2) | (go_at_call 28; refine (fill_run _ pr _ _ _ _ _ _ HM.out (by omega)).mono ?_; rintro e wn ⟨rfl, hm, hk⟩; have HM2 := hidIt hm; have HK2 := hidIt (HK.out.trans hk); clear HM HK hk hm; have HM := HM2; have HK := HK2; clear HM2 HK2) | (go_at_call 29; refine (SO.out _ pr _ _ _ _ _ HM.out (by omega)).mono ?_; rintro e wn ⟨rfl, σ1, hs1, hm, hk⟩; have HM2 := hidIt hm; have HK2 := hidIt (HK.out.trans hk); clear HM HK hk hm; have HM := HM2; have HK := HK2; clear HM2 HK2) | (go_at_call 30; refine (NU.out _ pr _ _ _ _ _ _ HM.out (by decide)).mono ?_; rintro e wn ⟨rfl, σ2, hs2, hm, hk⟩; have HM2 := hidIt hm; have HK2 := hidIt (HK.out.trans hk); clear HM HK hk hm; have HM := HM2; have HK := HK2; clear HM2 HK2))
  have hbd : BodyIs .run pool (σ1.put 177 0 0) := ⟨σ1, hs1, rfl⟩
  have HBD := hidIt hbd
  have hmd := body_made hbd hpl
  have HDN := hidIt (done_any _ pr pm _ _ _ _ ⟨#[114, 117, 110]⟩ ⟨#[40, 41, 86]⟩ false _ HM.out hmd.refs (by omega) hmd.code hmd.lines (by have := hmd.lab; omega))
  have HQ1 := hidIt ((HK.out.block w.heap.size hpm (by omega)).trans HQ0.out)
  have HVP : Hid (∃ ao cap, wn.cell? ⟨pm, 1, none⟩ = some (.slice ao (σ1.put 177 0 0).pool.length cap)) := by
    obtain ⟨s, hP, -, hsg⟩ := HM.out
    obtain ⟨ao, cap, e⟩ := own_slice hP.p
    refine ⟨ao, cap, ?_⟩
    have := cell_row hP.blk 1 (v := s.vp) rfl
    rw [this, e, show s.pool = (σ1.put 177 0 0).pool from congrArg SG.pool hsg]
  clear hbd hmd hs1 SO NU HQ0
  generalize (σ1.put 177 0 0) = σF at *
  obtain ⟨aoq, capq, hvp⟩ := HVP.out
  clear HVP
  go_upto_region 22 with (go_at_call 31; refine HDN.out.mono ?_; intro e wd hq; obtain ⟨ac, nc, capc, ah, nh, caph, af, nf, capf, he, hbd, hli⟩ := DoneQ.parts (k := .run) hq; have he' : e = .returned (.agg (mbd_4 ac nc capc ah nh caph af nf capf)) := he; subst he'; have HBD2 := hidIt hbd; have HLI := hidIt hli; clear hbd hli he hq)
  have HSA : Hid (∀ T, Same T wn (wd.alloc (.cells (mbd_4 ac nc capc ah nh caph af nf capf) 38))) := fun T => (Same.of_below HBD2.out).trans (Same.of_below (below_alloc wd _))
  have HQA := hidIt (HSA.out _ _ _ HQ1.out)
  have hlp := cell_lt hvp
  have hva : (wd.alloc (.cells (mbd_4 ac nc capc ah nh caph af nf capf) 38)).cell? ⟨pm, 1, none⟩ = some (.slice aoq σF.pool.length capq) := ((below_alloc wd _).cell (Nat.lt_of_lt_of_le hlp HBD2.out.size)).trans ((HBD2.out.cell hlp).trans hvp)
  have SA := hidIt (HS22.of (heap_alloc_new wd (.cells (mbd_4 ac nc capc ah nh caph af nf capf) 38)) hva)
  have HBX := hidIt (HBD2.out.trans ((below_alloc wd (.cells (mbd_4 ac nc capc ah nh caph af nf capf) 38)).mono HBD2.out.size))
  have hgz : wd.heap.size ≠ w.heap.size := by have h1 := HBD2.out.size; have h2 := HK.out.size; have h3 := (Array.getElem?_eq_some_iff.1 HQ1.out).1; omega
  have HXA := hidIt (heap_alloc_new wd (.cells (mbd_4 ac nc capc ah nh caph af nf capf) 38))
  have HAD := hidIt (below_alloc wd (.cells (mbd_4 ac nc capc ah nh caph af nf capf) 38))
  generalize (wd.alloc (.cells (mbd_4 ac nc capc ah nh caph af nf capf) 38)) = WA at *
  have SB : Hid (HS22 wd.heap.size pm (.string ⟨#[114, 117, 110]⟩) (.string ⟨#[40, 41, 86]⟩) (.bool false) (.bool false) (.int .i64 16) (.int .i64 10) (.slice ac nc capc) (.slice ah nh caph) (.slice af nf capf) (.slice aoq σF.pool.length capq) WA.drew) := SA.out
  have HQB : Hid (WA.drew.heap[w.heap.size]? = some (.cells mbd_6 38 (0, 0))) := HQA.out
  have SC := hidIt (HS22.of (W := WA.drew.setRow w.heap.size (mbd_4 ac nc capc ah nh caph af nf capf)) ((setRow_other _ _ _ _ hgz).trans HXA.out) ((World.cell?_of_block (a := ⟨pm, 1, none⟩) (setRow_other _ _ _ _ (Nat.ne_of_gt hpm))).trans hva))
  have HZA := hidIt (SetsTo.row (cs := (mbd_4 ac nc capc ah nh caph af nf capf)) HQB.out)
  have HQ := HQB
  clear hva HXA
  refine wp_region_noPanic ?_
  refine wp_region_held_drew (S := (HS22 wd.heap.size pm (.string ⟨#[114, 117, 110]⟩) (.string ⟨#[40, 41, 86]⟩) (.bool false) (.bool false) (.int .i64 16) (.int .i64 10) (.slice ac nc capc) (.slice ah nh caph) (.slice af nf capf) (.slice aoq σF.pool.length capq))) (by kernel_rfl) ?_ (fun hHeld => ?_)
  · (try dsimp only); first | exact SA.out | exact SB.out | exact SC.out
  refine tH 0 ?vrun22_1 rfl rfl ?hyrun22_1 ?restrun22_1
  case hyrun22_1 => intro w hSw; (try dsimp only at hSw); go_simp; obtain ⟨S0, S1, S2, S3, S4, S5, S6, S7, S8, S9⟩ := hSw; go_simp; try with_reducible rfl
  try simp only [Act.put, sq1, sq2, sq3]
  refine tH 1 ?vrun22_2 rfl rfl ?hyrun22_2 ?restrun22_2
  case hyrun22_2 => intro w hSw; (try dsimp only at hSw); go_simp; try with_reducible rfl
  try simp only [Act.put, sq1, sq2, sq3]
  refine tH 2 ?vrun22_3 rfl rfl ?hyrun22_3 ?restrun22_3
  case hyrun22_3 => intro w hSw; (try dsimp only at hSw); go_simp; try with_reducible rfl
  try simp only [Act.put, sq1, sq2, sq3]
  refine tH 3 ?vrun22_4 rfl rfl ?hyrun22_4 ?restrun22_4
  case hyrun22_4 => intro w hSw; (try dsimp only at hSw); go_simp; try with_reducible rfl
  try simp only [Act.put, sq1, sq2, sq3]
  refine tH 4 ?vrun22_5 rfl rfl ?hyrun22_5 ?restrun22_5
  case hyrun22_5 => intro w hSw; (try dsimp only at hSw); go_simp; obtain ⟨S0, S1, S2, S3, S4, S5, S6, S7, S8, S9⟩ := hSw; go_simp; try with_reducible rfl
  try simp only [Act.put, sq1, sq2, sq3]
  refine oH 5 rfl (fun K hK => ?_)
  refine op_store_row rfl 38 _ _ rfl w.heap.size (mbd_4 ac nc capc ah nh caph af nf capf) rfl rfl 38 _ HQ.out (by kernel_rfl) rfl (by simp [Value.oneCell']) ?_
  refine hK.out _ _ ?hSrun22_6 ?restrun22_6
  case hSrun22_6 => (try dsimp only); first | exact SA.out | exact SB.out | exact SC.out
  clear hK K hHeld
  intro hHeld
  try simp only [Act.put]
  refine tH 6 ?vrun22_7 rfl rfl ?hyrun22_7 ?restrun22_7
  case hyrun22_7 => intro w hSw; (try dsimp only at hSw); go_simp; try with_reducible rfl
  try simp only [Act.put, sq1, sq2, sq3]
  refine eH ?_
  refine NoPanic.normal ?_
  generalize WA.drew.setRow w.heap.size (mbd_4 ac nc capc ah nh caph af nf capf) = WZ at *
  go_wp2_with fail
  refine bodyPost_ret (results_rowb rfl _ _ w.heap.size 38 _ (0, 0) _ rfl HZA.out.1 Try.underlying38 rfl (by kernel_rfl)) rfl ?_
  have HS9 : Hid (∀ T, T ≠ 38 → Same T wn WZ) := fun T hT => (Same.of_below HBX.out).trans (HZA.out.2.1 T hT)
  have HA9 : Hid (∀ T, Same T wd WA) := fun T => Same.of_below HAD.out
  have HL9 := HLI.out.wk (Nat.le_trans (Nat.le_of_lt (Array.getElem?_eq_some_iff.1 HQ1.out).1) (Nat.le_refl _))
  refine body_end hpr HBD.out HB.out (Nat.le_of_lt hpm) HM.out HK.out HS9.out ?_ ?_ hvp
  · exact kq_sets (Kq.of_below HBX.out (Nat.le_of_lt (Array.getElem?_eq_some_iff.1 HQ1.out).1)) HZA.out
  · exact HL9.same ((HA9.out _).trans (HZA.out.2.1 _ (by decide))) ((HA9.out _).trans (HZA.out.2.1 _ (by decide))) ((HA9.out _).trans (HZA.out.2.1 _ (by decide))) ((HA9.out _).trans (HZA.out.2.1 _ (by decide)))
set_option maxRecDepth 8000 in
set_option maxHeartbeats 20000000 in
theorem body_main (pr : Nat) (vp : Value) (pool : List CD) (w : World) (hr : RecIs pr w) (hp : w.ownsRow 0 99 5 vp pool.length (ccells pool)) (hpl : pool.length ≤ 256) (hok : ∀ x ∈ pool, P3.CD.Ok x) :
    Calls Try.prog 16 #[.pointer (some ⟨pr, 0, none⟩), vp, .string ⟨#[109, 97, 105, 110]⟩, .string ⟨#[40, 41, 86]⟩, .bool true, .bool false, .bool false, .int .i64 0] w fun e w' => BodyQ .main pool pr w e w' := by
  obtain ⟨aop, capp, rfl⟩ := own_slice hp
  have hpr : pr < w.heap.size := by obtain ⟨_, _, _, h1, _⟩ := hr; exact (Array.getElem?_eq_some_iff.1 h1).1
  have SO := hidIt some_six
  have NU := hidIt (nums_all).n2
  have HM0 := hidIt (fun W pm (h1 : w.heap.size ≤ pm) (h2 : Below w.heap.size w W) h3 => mk_start pr _ pool w W false hr hp hpl hok pm h1 h2 h3)
  clear hr hp hok
  go_enter Try.func16, Try.ntmps16
  go_upto_region 2 with (fail)
  have HQ0 : Hid (((w.alloc (.cells mbd_6 38)).alloc (.cells (mbd_1 pr aop pool.length capp) 86)).heap[w.heap.size]? = some (.cells mbd_6 38 (0, 0))) := by
    show _ = _
    rw [(below_alloc _ _).block _ (by simp)]
    exact heap_alloc_new w _
  have HB : Hid (Below w.heap.size w ((w.alloc (.cells mbd_6 38)).alloc (.cells (mbd_1 pr aop pool.length capp) 86))) := (below_alloc w _).alloc (below_alloc w _).size _
  have HM := hidIt (HM0.out ((w.alloc (.cells mbd_6 38)).alloc (.cells (mbd_1 pr aop pool.length capp) 86)) (w.heap.size + 1) (Nat.le_succ _) HB.out (heap_new' (by simp)))
  clear HM0
  generalize ((w.alloc (.cells mbd_6 38)).alloc (.cells (mbd_1 pr aop pool.length capp) 86)) = W2 at *
  have hpm : w.heap.size < w.heap.size + 1 := Nat.lt_succ_self _
  generalize w.heap.size + 1 = pm at *
  have HK := hidIt (Kq.refl pm pr W2)
  go_upto_region 21 with (first | (go_at_call 27; refine (put_any _ pr _ _ _ _ _ _ _ _ _ HM.out (by omega)).mono ?_; rintro e wn ⟨rfl, hm, hk⟩; have HM2 := hidIt hm; have HK2 := hidIt (HK.out.trans hk); clear HM HK hk hm; have HM := HM2; have HK := HK2; clear HM2 HK2) | (go_at_call 28; refine (fill_main _ pr _ _ _ _ _ _ HM.out (by omega)).mono ?_; rintro e wn ⟨rfl, hm, hk⟩; have HM2 := hidIt hm; have HK2 := hidIt (HK.out.trans hk); clear HM HK hk hm; have HM := HM2; have HK := HK2; clear HM2 HK2) | (go_at_call 29; refine (SO.out _ pr _ _ _ _ _ HM.out (by omega)).mono ?_; rintro e wn ⟨rfl, σ1, hs1, hm, hk⟩; have HM2 := hidIt hm; have HK2 := hidIt (HK.out.trans hk); clear HM HK hk hm; have HM := HM2; have HK := HK2; clear HM2 HK2) | (go_at_call 30; refine (NU.out _ pr _ _ _ _ _ _ HM.out (by decide)).mono ?_; rintro e wn ⟨rfl, σ2, hs2, hm, hk⟩; have HM2 := hidIt hm; have HK2 := hidIt (HK.out.trans hk); clear HM HK hk hm; have HM := HM2; have HK := HK2; clear HM2 HK2))
  have hbd : BodyIs .main pool (σ1.put 177 0 0) := ⟨σ1, hs1, rfl⟩
  have HBD := hidIt hbd
  have hmd := body_made hbd hpl
  have HDN := hidIt (done_any _ pr pm _ _ _ _ ⟨#[109, 97, 105, 110]⟩ ⟨#[40, 41, 86]⟩ true _ HM.out hmd.refs (by omega) hmd.code hmd.lines (by have := hmd.lab; omega))
  have HQ1 := hidIt ((HK.out.block w.heap.size hpm (by omega)).trans HQ0.out)
  have HVP : Hid (∃ ao cap, wn.cell? ⟨pm, 1, none⟩ = some (.slice ao (σ1.put 177 0 0).pool.length cap)) := by
    obtain ⟨s, hP, -, hsg⟩ := HM.out
    obtain ⟨ao, cap, e⟩ := own_slice hP.p
    refine ⟨ao, cap, ?_⟩
    have := cell_row hP.blk 1 (v := s.vp) rfl
    rw [this, e, show s.pool = (σ1.put 177 0 0).pool from congrArg SG.pool hsg]
  clear hbd hmd hs1 SO NU HQ0
  generalize (σ1.put 177 0 0) = σF at *
  obtain ⟨aoq, capq, hvp⟩ := HVP.out
  clear HVP
  go_upto_region 22 with (go_at_call 31; refine HDN.out.mono ?_; intro e wd hq; obtain ⟨ac, nc, capc, ah, nh, caph, af, nf, capf, he, hbd, hli⟩ := DoneQ.parts (k := .main) hq; have he' : e = .returned (.agg (mbd_3 ac nc capc ah nh caph af nf capf)) := he; subst he'; have HBD2 := hidIt hbd; have HLI := hidIt hli; clear hbd hli he hq)
  have HSA : Hid (∀ T, Same T wn (wd.alloc (.cells (mbd_3 ac nc capc ah nh caph af nf capf) 38))) := fun T => (Same.of_below HBD2.out).trans (Same.of_below (below_alloc wd _))
  have HQA := hidIt (HSA.out _ _ _ HQ1.out)
  have hlp := cell_lt hvp
  have hva : (wd.alloc (.cells (mbd_3 ac nc capc ah nh caph af nf capf) 38)).cell? ⟨pm, 1, none⟩ = some (.slice aoq σF.pool.length capq) := ((below_alloc wd _).cell (Nat.lt_of_lt_of_le hlp HBD2.out.size)).trans ((HBD2.out.cell hlp).trans hvp)
  have SA := hidIt (HS22.of (heap_alloc_new wd (.cells (mbd_3 ac nc capc ah nh caph af nf capf) 38)) hva)
  have HBX := hidIt (HBD2.out.trans ((below_alloc wd (.cells (mbd_3 ac nc capc ah nh caph af nf capf) 38)).mono HBD2.out.size))
  have hgz : wd.heap.size ≠ w.heap.size := by have h1 := HBD2.out.size; have h2 := HK.out.size; have h3 := (Array.getElem?_eq_some_iff.1 HQ1.out).1; omega
  have HXA := hidIt (heap_alloc_new wd (.cells (mbd_3 ac nc capc ah nh caph af nf capf) 38))
  have HAD := hidIt (below_alloc wd (.cells (mbd_3 ac nc capc ah nh caph af nf capf) 38))
  generalize (wd.alloc (.cells (mbd_3 ac nc capc ah nh caph af nf capf) 38)) = WA at *
  have SB : Hid (HS22 wd.heap.size pm (.string ⟨#[109, 97, 105, 110]⟩) (.string ⟨#[40, 41, 86]⟩) (.bool true) (.bool false) (.int .i64 16) (.int .i64 10) (.slice ac nc capc) (.slice ah nh caph) (.slice af nf capf) (.slice aoq σF.pool.length capq) WA.drew) := SA.out
  have HQB : Hid (WA.drew.heap[w.heap.size]? = some (.cells mbd_6 38 (0, 0))) := HQA.out
  have SC := hidIt (HS22.of (W := WA.drew.setRow w.heap.size (mbd_3 ac nc capc ah nh caph af nf capf)) ((setRow_other _ _ _ _ hgz).trans HXA.out) ((World.cell?_of_block (a := ⟨pm, 1, none⟩) (setRow_other _ _ _ _ (Nat.ne_of_gt hpm))).trans hva))
  have HZA := hidIt (SetsTo.row (cs := (mbd_3 ac nc capc ah nh caph af nf capf)) HQB.out)
  have HQ := HQB
  clear hva HXA
  refine wp_region_noPanic ?_
  refine wp_region_held_drew (S := (HS22 wd.heap.size pm (.string ⟨#[109, 97, 105, 110]⟩) (.string ⟨#[40, 41, 86]⟩) (.bool true) (.bool false) (.int .i64 16) (.int .i64 10) (.slice ac nc capc) (.slice ah nh caph) (.slice af nf capf) (.slice aoq σF.pool.length capq))) (by kernel_rfl) ?_ (fun hHeld => ?_)
  · (try dsimp only); first | exact SA.out | exact SB.out | exact SC.out
  refine tH 0 ?vmain22_1 rfl rfl ?hymain22_1 ?restmain22_1
  case hymain22_1 => intro w hSw; (try dsimp only at hSw); go_simp; obtain ⟨S0, S1, S2, S3, S4, S5, S6, S7, S8, S9⟩ := hSw; go_simp; try with_reducible rfl
  try simp only [Act.put, sq1, sq2, sq3]
  refine tH 1 ?vmain22_2 rfl rfl ?hymain22_2 ?restmain22_2
  case hymain22_2 => intro w hSw; (try dsimp only at hSw); go_simp; try with_reducible rfl
  try simp only [Act.put, sq1, sq2, sq3]
  refine tH 2 ?vmain22_3 rfl rfl ?hymain22_3 ?restmain22_3
  case hymain22_3 => intro w hSw; (try dsimp only at hSw); go_simp; try with_reducible rfl
  try simp only [Act.put, sq1, sq2, sq3]
  refine tH 3 ?vmain22_4 rfl rfl ?hymain22_4 ?restmain22_4
  case hymain22_4 => intro w hSw; (try dsimp only at hSw); go_simp; try with_reducible rfl
  try simp only [Act.put, sq1, sq2, sq3]
  refine tH 4 ?vmain22_5 rfl rfl ?hymain22_5 ?restmain22_5
  case hymain22_5 => intro w hSw; (try dsimp only at hSw); go_simp; obtain ⟨S0, S1, S2, S3, S4, S5, S6, S7, S8, S9⟩ := hSw; go_simp; try with_reducible rfl
  try simp only [Act.put, sq1, sq2, sq3]
  refine oH 5 rfl (fun K hK => ?_)
  refine op_store_row rfl 38 _ _ rfl w.heap.size (mbd_3 ac nc capc ah nh caph af nf capf) rfl rfl 38 _ HQ.out (by kernel_rfl) rfl (by simp [Value.oneCell']) ?_
  refine hK.out _ _ ?hSmain22_6 ?restmain22_6
  case hSmain22_6 => (try dsimp only); first | exact SA.out | exact SB.out | exact SC.out
  clear hK K hHeld
  intro hHeld
  try simp only [Act.put]
  refine tH 6 ?vmain22_7 rfl rfl ?hymain22_7 ?restmain22_7
  case hymain22_7 => intro w hSw; (try dsimp only at hSw); go_simp; try with_reducible rfl
  try simp only [Act.put, sq1, sq2, sq3]
  refine eH ?_
  refine NoPanic.normal ?_
  generalize WA.drew.setRow w.heap.size (mbd_3 ac nc capc ah nh caph af nf capf) = WZ at *
  go_wp2_with fail
  refine bodyPost_ret (results_rowb rfl _ _ w.heap.size 38 _ (0, 0) _ rfl HZA.out.1 Try.underlying38 rfl (by kernel_rfl)) rfl ?_
  have HS9 : Hid (∀ T, T ≠ 38 → Same T wn WZ) := fun T hT => (Same.of_below HBX.out).trans (HZA.out.2.1 T hT)
  have HA9 : Hid (∀ T, Same T wd WA) := fun T => Same.of_below HAD.out
  have HL9 := HLI.out.wk (Nat.le_trans (Nat.le_of_lt (Array.getElem?_eq_some_iff.1 HQ1.out).1) (Nat.le_refl _))
  refine body_end hpr HBD.out HB.out (Nat.le_of_lt hpm) HM.out HK.out HS9.out ?_ ?_ hvp
  · exact kq_sets (Kq.of_below HBX.out (Nat.le_of_lt (Array.getElem?_eq_some_iff.1 HQ1.out).1)) HZA.out
  · exact HL9.same ((HA9.out _).trans (HZA.out.2.1 _ (by decide))) ((HA9.out _).trans (HZA.out.2.1 _ (by decide))) ((HA9.out _).trans (HZA.out.2.1 _ (by decide))) ((HA9.out _).trans (HZA.out.2.1 _ (by decide)))
set_option maxRecDepth 8000 in
set_option maxHeartbeats 20000000 in
theorem body_calc (pr : Nat) (vp : Value) (pool : List CD) (w : World) (hr : RecIs pr w) (hp : w.ownsRow 0 99 5 vp pool.length (ccells pool)) (hpl : pool.length ≤ 256) (hok : ∀ x ∈ pool, P3.CD.Ok x) :
    Calls Try.prog 16 #[.pointer (some ⟨pr, 0, none⟩), vp, .string ⟨#[99, 97, 108, 99]⟩, .string ⟨#[40, 73, 73, 41, 73]⟩, .bool true, .bool true, .bool true, .int .i64 2] w fun e w' => BodyQ .calc pool pr w e w' := by
  obtain ⟨aop, capp, rfl⟩ := own_slice hp
  have hpr : pr < w.heap.size := by obtain ⟨_, _, _, h1, _⟩ := hr; exact (Array.getElem?_eq_some_iff.1 h1).1
  have SO := hidIt some_six
  have NU := hidIt (nums_all).n2
  have HM0 := hidIt (fun W pm (h1 : w.heap.size ≤ pm) (h2 : Below w.heap.size w W) h3 => mk_start pr _ pool w W true hr hp hpl hok pm h1 h2 h3)
  clear hr hp hok
  go_enter Try.func16, Try.ntmps16
  go_upto_region 2 with (fail)
  have HQ0 : Hid (((w.alloc (.cells mbd_6 38)).alloc (.cells (mbd_2 pr aop pool.length capp) 86)).heap[w.heap.size]? = some (.cells mbd_6 38 (0, 0))) := by
    show _ = _
    rw [(below_alloc _ _).block _ (by simp)]
    exact heap_alloc_new w _
  have HB : Hid (Below w.heap.size w ((w.alloc (.cells mbd_6 38)).alloc (.cells (mbd_2 pr aop pool.length capp) 86))) := (below_alloc w _).alloc (below_alloc w _).size _
  have HM := hidIt (HM0.out ((w.alloc (.cells mbd_6 38)).alloc (.cells (mbd_2 pr aop pool.length capp) 86)) (w.heap.size + 1) (Nat.le_succ _) HB.out (heap_new' (by simp)))
  clear HM0
  generalize ((w.alloc (.cells mbd_6 38)).alloc (.cells (mbd_2 pr aop pool.length capp) 86)) = W2 at *
  have hpm : w.heap.size < w.heap.size + 1 := Nat.lt_succ_self _
  generalize w.heap.size + 1 = pm at *
  have HK := hidIt (Kq.refl pm pr W2)
  go_upto_region 21 with (first | (go_at_call 27; refine (put_any _ pr _ _ _ _ _ _ _ _ _ HM.out (by omega)).mono ?_; rintro e wn ⟨rfl, hm, hk⟩; have HM2 := hidIt hm; have HK2 := hidIt (HK.out.trans hk); clear HM HK hk hm; have HM := HM2; have HK := HK2; clear HM2 HK2) | (go_at_call 28; refine (fill_calc _ pr _ _ _ _ _ _ HM.out (by omega)).mono ?_; rintro e wn ⟨rfl, hm, hk⟩; have HM2 := hidIt hm; have HK2 := hidIt (HK.out.trans hk); clear HM HK hk hm; have HM := HM2; have HK := HK2; clear HM2 HK2) | (go_at_call 29; refine (SO.out _ pr _ _ _ _ _ HM.out (by omega)).mono ?_; rintro e wn ⟨rfl, σ1, hs1, hm, hk⟩; have HM2 := hidIt hm; have HK2 := hidIt (HK.out.trans hk); clear HM HK hk hm; have HM := HM2; have HK := HK2; clear HM2 HK2) | (go_at_call 30; refine (NU.out _ pr _ _ _ _ _ _ HM.out (by decide)).mono ?_; rintro e wn ⟨rfl, σ2, hs2, hm, hk⟩; have HM2 := hidIt hm; have HK2 := hidIt (HK.out.trans hk); clear HM HK hk hm; have HM := HM2; have HK := HK2; clear HM2 HK2))
  have hbd : BodyIs .calc pool (σ2.put 172 0 0) := ⟨σ1, hs1, by rw [if_pos (show BK.gv .calc = true from rfl)]; exact ⟨σ2, hs2, rfl⟩⟩
  have HBD := hidIt hbd
  have hmd := body_made hbd hpl
  have HDN := hidIt (done_any _ pr pm _ _ _ _ ⟨#[99, 97, 108, 99]⟩ ⟨#[40, 73, 73, 41, 73]⟩ true _ HM.out hmd.refs (by omega) hmd.code hmd.lines (by have := hmd.lab; omega))
  have HQ1 := hidIt ((HK.out.block w.heap.size hpm (by omega)).trans HQ0.out)
  have HVP : Hid (∃ ao cap, wn.cell? ⟨pm, 1, none⟩ = some (.slice ao (σ2.put 172 0 0).pool.length cap)) := by
    obtain ⟨s, hP, -, hsg⟩ := HM.out
    obtain ⟨ao, cap, e⟩ := own_slice hP.p
    refine ⟨ao, cap, ?_⟩
    have := cell_row hP.blk 1 (v := s.vp) rfl
    rw [this, e, show s.pool = (σ2.put 172 0 0).pool from congrArg SG.pool hsg]
  clear hbd hmd hs1 hs2 SO NU HQ0
  generalize (σ2.put 172 0 0) = σF at *
  obtain ⟨aoq, capq, hvp⟩ := HVP.out
  clear HVP
  go_upto_region 22 with (go_at_call 31; refine HDN.out.mono ?_; intro e wd hq; obtain ⟨ac, nc, capc, ah, nh, caph, af, nf, capf, he, hbd, hli⟩ := DoneQ.parts (k := .calc) hq; have he' : e = .returned (.agg (mbd_0 ac nc capc ah nh caph af nf capf)) := he; subst he'; have HBD2 := hidIt hbd; have HLI := hidIt hli; clear hbd hli he hq)
  have HSA : Hid (∀ T, Same T wn (wd.alloc (.cells (mbd_0 ac nc capc ah nh caph af nf capf) 38))) := fun T => (Same.of_below HBD2.out).trans (Same.of_below (below_alloc wd _))
  have HQA := hidIt (HSA.out _ _ _ HQ1.out)
  have hlp := cell_lt hvp
  have hva : (wd.alloc (.cells (mbd_0 ac nc capc ah nh caph af nf capf) 38)).cell? ⟨pm, 1, none⟩ = some (.slice aoq σF.pool.length capq) := ((below_alloc wd _).cell (Nat.lt_of_lt_of_le hlp HBD2.out.size)).trans ((HBD2.out.cell hlp).trans hvp)
  have SA := hidIt (HS22.of (heap_alloc_new wd (.cells (mbd_0 ac nc capc ah nh caph af nf capf) 38)) hva)
  have HBX := hidIt (HBD2.out.trans ((below_alloc wd (.cells (mbd_0 ac nc capc ah nh caph af nf capf) 38)).mono HBD2.out.size))
  have hgz : wd.heap.size ≠ w.heap.size := by have h1 := HBD2.out.size; have h2 := HK.out.size; have h3 := (Array.getElem?_eq_some_iff.1 HQ1.out).1; omega
  have HXA := hidIt (heap_alloc_new wd (.cells (mbd_0 ac nc capc ah nh caph af nf capf) 38))
  have HAD := hidIt (below_alloc wd (.cells (mbd_0 ac nc capc ah nh caph af nf capf) 38))
  generalize (wd.alloc (.cells (mbd_0 ac nc capc ah nh caph af nf capf) 38)) = WA at *
  have SB : Hid (HS22 wd.heap.size pm (.string ⟨#[99, 97, 108, 99]⟩) (.string ⟨#[40, 73, 73, 41, 73]⟩) (.bool true) (.bool false) (.int .i64 16) (.int .i64 4) (.slice ac nc capc) (.slice ah nh caph) (.slice af nf capf) (.slice aoq σF.pool.length capq) WA.drew) := SA.out
  have HQB : Hid (WA.drew.heap[w.heap.size]? = some (.cells mbd_6 38 (0, 0))) := HQA.out
  have SC := hidIt (HS22.of (W := WA.drew.setRow w.heap.size (mbd_0 ac nc capc ah nh caph af nf capf)) ((setRow_other _ _ _ _ hgz).trans HXA.out) ((World.cell?_of_block (a := ⟨pm, 1, none⟩) (setRow_other _ _ _ _ (Nat.ne_of_gt hpm))).trans hva))
  have HZA := hidIt (SetsTo.row (cs := (mbd_0 ac nc capc ah nh caph af nf capf)) HQB.out)
  have HQ := HQB
  clear hva HXA
  refine wp_region_noPanic ?_
  refine wp_region_held_drew (S := (HS22 wd.heap.size pm (.string ⟨#[99, 97, 108, 99]⟩) (.string ⟨#[40, 73, 73, 41, 73]⟩) (.bool true) (.bool false) (.int .i64 16) (.int .i64 4) (.slice ac nc capc) (.slice ah nh caph) (.slice af nf capf) (.slice aoq σF.pool.length capq))) (by kernel_rfl) ?_ (fun hHeld => ?_)
  · (try dsimp only); first | exact SA.out | exact SB.out | exact SC.out
  refine tH 0 ?vcalc22_1 rfl rfl ?hycalc22_1 ?restcalc22_1
  case hycalc22_1 => intro w hSw; (try dsimp only at hSw); go_simp; obtain ⟨S0, S1, S2, S3, S4, S5, S6, S7, S8, S9⟩ := hSw; go_simp; try with_reducible rfl
  try simp only [Act.put, sq1, sq2, sq3]
  refine tH 1 ?vcalc22_2 rfl rfl ?hycalc22_2 ?restcalc22_2
  case hycalc22_2 => intro w hSw; (try dsimp only at hSw); go_simp; try with_reducible rfl
  try simp only [Act.put, sq1, sq2, sq3]
  refine tH 2 ?vcalc22_3 rfl rfl ?hycalc22_3 ?restcalc22_3
  case hycalc22_3 => intro w hSw; (try dsimp only at hSw); go_simp; try with_reducible rfl
  try simp only [Act.put, sq1, sq2, sq3]
  refine tH 3 ?vcalc22_4 rfl rfl ?hycalc22_4 ?restcalc22_4
  case hycalc22_4 => intro w hSw; (try dsimp only at hSw); go_simp; try with_reducible rfl
  try simp only [Act.put, sq1, sq2, sq3]
  refine tH 4 ?vcalc22_5 rfl rfl ?hycalc22_5 ?restcalc22_5
  case hycalc22_5 => intro w hSw; (try dsimp only at hSw); go_simp; obtain ⟨S0, S1, S2, S3, S4, S5, S6, S7, S8, S9⟩ := hSw; go_simp; try with_reducible rfl
  try simp only [Act.put, sq1, sq2, sq3]
  refine oH 5 rfl (fun K hK => ?_)
  refine op_store_row rfl 38 _ _ rfl w.heap.size (mbd_0 ac nc capc ah nh caph af nf capf) rfl rfl 38 _ HQ.out (by kernel_rfl) rfl (by simp [Value.oneCell']) ?_
  refine hK.out _ _ ?hScalc22_6 ?restcalc22_6
  case hScalc22_6 => (try dsimp only); first | exact SA.out | exact SB.out | exact SC.out
  clear hK K hHeld
  intro hHeld
  try simp only [Act.put]
  refine tH 6 ?vcalc22_7 rfl rfl ?hycalc22_7 ?restcalc22_7
  case hycalc22_7 => intro w hSw; (try dsimp only at hSw); go_simp; try with_reducible rfl
  try simp only [Act.put, sq1, sq2, sq3]
  refine eH ?_
  refine NoPanic.normal ?_
  generalize WA.drew.setRow w.heap.size (mbd_0 ac nc capc ah nh caph af nf capf) = WZ at *
  go_wp2_with fail
  refine bodyPost_ret (results_rowb rfl _ _ w.heap.size 38 _ (0, 0) _ rfl HZA.out.1 Try.underlying38 rfl (by kernel_rfl)) rfl ?_
  have HS9 : Hid (∀ T, T ≠ 38 → Same T wn WZ) := fun T hT => (Same.of_below HBX.out).trans (HZA.out.2.1 T hT)
  have HA9 : Hid (∀ T, Same T wd WA) := fun T => Same.of_below HAD.out
  have HL9 := HLI.out.wk (Nat.le_trans (Nat.le_of_lt (Array.getElem?_eq_some_iff.1 HQ1.out).1) (Nat.le_refl _))
  refine body_end hpr HBD.out HB.out (Nat.le_of_lt hpm) HM.out HK.out HS9.out ?_ ?_ hvp
  · exact kq_sets (Kq.of_below HBX.out (Nat.le_of_lt (Array.getElem?_eq_some_iff.1 HQ1.out).1)) HZA.out
  · exact HL9.same ((HA9.out _).trans (HZA.out.2.1 _ (by decide))) ((HA9.out _).trans (HZA.out.2.1 _ (by decide))) ((HA9.out _).trans (HZA.out.2.1 _ (by decide))) ((HA9.out _).trans (HZA.out.2.1 _ (by decide)))
end Go.Proofs.Ytlnapfeglbdecaa.M
