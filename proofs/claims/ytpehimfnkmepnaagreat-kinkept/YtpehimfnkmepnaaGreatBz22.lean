import Derived.Test.YtpehimfnkmepnaaGreatBz13
import Derived.Test.YtpehimfnkmepnaaGreatBz18
import Derived.Test.YtpehimfnkmepnaaGreatBz21
set_option maxRecDepth 8000
set_option maxHeartbeats 40000000
namespace Go.Proofs.YtpehimfnkmepnaaGreat.M
open Go.RowKit
abbrev zGf (a0) (a1) (a2) (a3) (a4) (a5) (a6) (a7) (a8) := (#[.string ⟨#[99, 97, 108, 99]⟩, .string ⟨#[40, 73, 73, 41, 73]⟩, .bool true, .bool false, .int .i64 16, .int .i64 4, .slice a0 a1 a2, .slice a3 a4 a5, .slice a6 a7 a8] : Array Value)
abbrev zGd (a0) (a1) (a2) (a3) := (#[.pointer (some ⟨a0, 0, none⟩), .slice a1 a2 a3, .slice none 0 0, .int .i64 0, .bool false, .int .i64 110, .int .i64 0, .slice none 0 0, .slice none 0 0, .slice none 0 0] : Array Value)
abbrev zQ9 (a0) (a1) (a2) (a3) := (#[.pointer (some ⟨a0, 0, none⟩), .slice a1 a2 a3, .slice none 0 0, .int .i64 0, .bool true, .int .i64 110, .int .i64 0, .slice none 0 0, .slice none 0 0, .slice none 0 0] : Array Value)
abbrev zGh (a0) (a1) (a2) (a3) (a4) (a5) (a6) (a7) (a8) := (#[.string ⟨#[109, 97, 105, 110]⟩, .string ⟨#[40, 41, 86]⟩, .bool true, .bool false, .int .i64 16, .int .i64 10, .slice a0 a1 a2, .slice a3 a4 a5, .slice a6 a7 a8] : Array Value)
abbrev zGl (a0) (a1) (a2) (a3) (a4) (a5) (a6) (a7) (a8) := (#[.string ⟨#[114, 117, 110]⟩, .string ⟨#[40, 41, 86]⟩, .bool false, .bool false, .int .i64 16, .int .i64 10, .slice a0 a1 a2, .slice a3 a4 a5, .slice a6 a7 a8] : Array Value)
abbrev zGg (a0) (a1) (a2) (a3) (a4) (a5) (a6) (a7) (a8) := (#[.string ⟨#[103, 111]⟩, .string ⟨#[40, 73, 41, 73]⟩, .bool false, .bool false, .int .i64 16, .int .i64 10, .slice a0 a1 a2, .slice a3 a4 a5, .slice a6 a7 a8] : Array Value)
abbrev zCu := (#[.string ⟨#[]⟩, .string ⟨#[]⟩, .bool false, .bool false, .int .i64 0, .int .i64 0, .slice none 0 0, .slice none 0 0, .slice none 0 0] : Array Value)
def zGe (w : World) (b : Nat) (k : BK) (σ : SG) (row : Array Value) : Prop := ∃ vc vh vf fs, row = #[.string k.nm, .string k.ds, .bool k.st, .bool false, .int .i64 16, .int .i64 ((zB5 k.pl).length : Nat), vc, vh, vf] ∧ w.ownsRow b 5 1 vc (encL (zBw σ) []).1.length (zAj (encL (zBw σ) []).1) ∧ w.ownsRow b 154 4 vh (zDf σ).length (zBs (zDf σ)) ∧ w.ownsRow b 67 3 vf fs.length (zC9 fs) ∧ FRs k.pl w fs (zDi σ)
def zF6 (k : BK) (pool : List CD) (pr : Nat) (w : World) (e : Ending) (w' : World) : Prop := ∃ σ row vp, zBm k pool σ ∧ e = .returned (.tuple #[.agg row, vp]) ∧ zBy pr w' ∧ Kq w.heap.size pr w w' ∧ w'.ownsRow 0 112 5 vp σ.pool.length (zB2 σ.pool) ∧ (∀ x ∈ σ.pool, P3.CD.Ok x) ∧ zGe w' w.heap.size k σ row
theorem zC5 {P : Program} {ops : Array Oper} {o : Oper} {a : Act} {w : World} {K : Act → World → Prop} {Q : Exit → Act → World → Prop} {E : Prop} (hgd : o.guard = none) (ty : TypeId) (x y : Operand) (ho : o.op = .store ty x y)
 (g : Nat) (cells : Array Value) (hx : a.eval x = .pointer (some ⟨g, 0, none⟩)) (hy : a.eval y = .agg cells)
 (t : TypeId) (old : Array Value) (hg : w.heap[g]? = some (.cells old t (0, 0))) (hi : (P.info? ty).map (·.size) = some cells.size)
 (hold : old.size = cells.size) (h1 : cells.all (·.oneCell') = true) (h : K (a.put o.dst undef) (w.setRow g cells)) :
 if Region.wanted o (yielded ops a.tmps) = true then Oper.wp P o a w K Q else E := by
 rw [if_pos (by simp [Region.wanted, hgd])]
 exact wp_store_row ty x y ho g cells hx hy t old hg hi hold h1 h
theorem zC6 {fn : Func} {p t1 : Tmp} {ty : TypeId} (h : fn.results = #[.cell p ty, .tmp t1]) (tmps : Array Value) (w : World) (g : Nat) (t : TypeId) (cs : Array Value) (fr : Nat × Nat) (d : TypeDesc)
 (hp : tmps.getD p undef = .pointer (some ⟨g, 0, none⟩)) (hg : w.heap[g]? = some (.cells cs t fr))
 (hu : Tryz.prog.underlying ty = some d) (hd : (match d with | .struct _ | .array _ _ => true | _ => false) = true) (hi : (Tryz.prog.info? ty).map (·.size) = some cs.size) :
 (results fn tmps).run Tryz.prog w = .ok (.tuple #[.agg cs, tmps.getD t1 undef]) w := by
 have hp' : tmps[p]?.getD undef = .pointer (some ⟨g, 0, none⟩) := by simpa using hp
 have hL := run_loadVar_row (P := Tryz.prog) w g t ty cs fr d hg hu (by cases d <;> simp_all) hi
 simp [results, h, hp', asAddr, hL, Result.andThen]
def HS22 (g pm : Nat) (x0 x1 x2 x3 x4 x5 x6 x7 x8 y : Value) (W : World) : Prop := W.cell? ⟨g, 0, none⟩ = some x0 ∧ W.cell? ⟨g, 1, none⟩ = some x1 ∧ W.cell? ⟨g, 2, none⟩ = some x2 ∧ W.cell? ⟨g, 3, none⟩ = some x3 ∧ W.cell? ⟨g, 4, none⟩ = some x4 ∧ W.cell? ⟨g, 5, none⟩ = some x5 ∧ W.cell? ⟨g, 6, none⟩ = some x6 ∧ W.cell? ⟨g, 7, none⟩ = some x7 ∧ W.cell? ⟨g, 8, none⟩ = some x8 ∧ W.cell? ⟨pm, 1, none⟩ = some y
theorem HS22.of {g pm : Nat} {x0 x1 x2 x3 x4 x5 x6 x7 x8 y : Value} {W : World} (h : W.heap[g]? = some (.cells #[x0, x1, x2, x3, x4, x5, x6, x7, x8] 39 (0, 0))) (k : W.cell? ⟨pm, 1, none⟩ = some y) : HS22 g pm x0 x1 x2 x3 x4 x5 x6 x7 x8 y W :=
 ⟨zA1 h 0 rfl, zA1 h 1 rfl, zA1 h 2 rfl, zA1 h 3 rfl, zA1 h 4 rfl, zA1 h 5 rfl, zA1 h 6 rfl, zA1 h 7 rfl, zA1 h 8 rfl, k⟩
theorem zGp (pr : Nat) (vp : Value) (pool : List CD) (w W : World) (pl : Bool) (hr : zBy pr w) (hp : w.ownsRow 0 112 5 vp pool.length (zB2 pool)) (hpl : pool.length ≤ 256) (hok : ∀ x ∈ pool, P3.CD.Ok x) (pm : Nat) (hpm : w.heap.size ≤ pm) (hb : Below w.heap.size w W)
 (hm : W.heap[pm]? = some (.cells #[.pointer (some ⟨pr, 0, none⟩), vp, .slice none 0 0, .int .i64 0, .bool pl, .int .i64 110, .int .i64 0, .slice none 0 0, .slice none 0 0, .slice none 0 0] 144 (0, 0))) : Mk pm pr pm 300 0 pl (s0 pool) W := by
 obtain ⟨vr, rl, at_, h1, h2, h3⟩ := hr
 have hpr := (Array.getElem?_eq_some_iff.1 h1).1
 refine ⟨⟨vr, rl, at_, vp, pool, .slice none 0 0, [], .slice none 0 0, [], .slice none 0 0, [], 0, 110, 0, pl⟩, ⟨hm, (hb.block pr hpr).trans h1, (h2.kq (Kq.of_below hb (Nat.le_refl _))).mono hpm, zA3 hp (Same.of_below hb), zAu _ _ _ _, zAu _ _ _ _, zAu _ _ _ _, Nat.le_refl _, by omega, h3⟩, ⟨rfl, rfl, Nat.zero_le _, Nat.zero_le _, by simp only; omega, Nat.zero_le _, Nat.zero_le _, by simp only; omega, by simp only; omega, hok⟩, rfl⟩
theorem zGe.same {w w' : World} {b : Nat} {k : BK} {σ : SG} {row : Array Value} (h : zGe w b k σ row) (s5 : Same 5 w w') (sh : Same 154 w w') (sf : Same 67 w w') (ss : Same 9 w w') : zGe w' b k σ row := by
 obtain ⟨vc, vh, vf, fs, e, h1, h2, h3, h4⟩ := h
 exact ⟨vc, vh, vf, fs, e, zA3 h1 s5, zA3 h2 sh, zA3 h3 sf, h4.same ss⟩
theorem zGe.wk {w : World} {b b' : Nat} {k : BK} {σ : SG} {row : Array Value} (h : zGe w b k σ row) (hb : b' ≤ b) : zGe w b' k σ row := by
 obtain ⟨vc, vh, vf, fs, e, h1, h2, h3, h4⟩ := h
 exact ⟨vc, vh, vf, fs, e, zIg h1 hb, zIg h2 hb, zIg h3 hb, h4⟩
theorem zK6.parts {k : BK} {σ : SG} {w w' : World} {e : Ending} (h : zK6 k.pl k.st k.nm k.ds σ w e w') : ∃ ac nc capc ah nh caph af nf capf, e = .returned (.agg #[.string k.nm, .string k.ds, .bool k.st, .bool false, .int .i64 16, .int .i64 ((zB5 k.pl).length : Nat), .slice ac nc capc, .slice ah nh caph, .slice af nf capf]) ∧ Below w.heap.size w w' ∧ zGe w' w.heap.size k σ #[.string k.nm, .string k.ds, .bool k.st, .bool false, .int .i64 16, .int .i64 ((zB5 k.pl).length : Nat), .slice ac nc capc, .slice ah nh caph, .slice af nf capf] := by
 obtain ⟨vc, vh, vf, fs, rfl, hbd, ⟨b, hb0, hc⟩, hh, hf, hfr⟩ := h
 obtain ⟨ac, capc, rfl⟩ := zA4 hc
 obtain ⟨ah, caph, rfl⟩ := zA4 hh
 obtain ⟨af, capf, rfl⟩ := zA4 hf
 exact ⟨ac, _, capc, ah, _, caph, af, _, capf, rfl, hbd, _, _, _, fs, rfl, zIg hc hb0, hh, hf, hfr⟩
theorem zGq : zFy 0 6 245520 := fun B pr pm n pl σ w hm hn => by
 have h := zFv 0 40920 zSg B pr pm n pl σ 6 w hm (by omega) (by omega) (by rw [show (6 : Int).toNat * 40920 = 245520 from rfl]; exact hn)
 rw [show (6 : Int).toNat * 40920 = 245520 from rfl] at h
 exact h
theorem Kq.weak {B B' pr : Nat} {w w' : World} (h : Kq B pr w w') (hB : B' ≤ B) : Kq B' pr w w' := ⟨h.os, h.tape, h.output, h.size, fun k hk hp => h.block k (by omega) hp⟩
theorem zIw {pr g T : Nat} {w w1 w' : World} {cs : Array Value} (h : Kq g pr w w1) (hs : zGb g T w1.drew w' cs) : Kq g pr w w' := by
 have hb := hs.2.2 g w1.drew (Nat.le_refl _) (Below.refl _ _)
 exact ⟨hb.os.trans h.os, hb.tape.trans h.tape, hb.output.trans h.output, Nat.le_trans h.size hb.size, fun k hk hp => (hb.block k hk).trans (h.block k hk hp)⟩
theorem zGn {k : BK} {pool : List CD} {σ : SG} {pr pm n : Nat} {w W2 wn W : World} {ao : Option Addr} {cap : Nat} {row : Array Value} (hpr : pr < w.heap.size) (hB : zBm k pool σ) (hw : Below w.heap.size w W2) (hpm : w.heap.size ≤ pm) (HM : Mk pm pr pm n 0 k.pl σ wn) (HK : Kq pm pr W2 wn) (hS : ∀ T, T ≠ 39 → Same T wn W) (hK : Kq w.heap.size pr wn W) (hL : zGe W w.heap.size k σ row)
 (hv : wn.cell? ⟨pm, 1, none⟩ = some (.slice ao σ.pool.length cap)) :
 zF6 k pool pr w (.returned (.tuple #[.agg row, .slice ao σ.pool.length cap])) W := by
 obtain ⟨s, HP, HB, rfl⟩ := HM
 have hz := HP.lt
 have e : s.vp = .slice ao s.pool.length cap := by
  have := zA1 HP.blk 1 (v := s.vp) rfl
  rw [this] at hv
  exact Option.some.inj hv
 have hK2 := (HK.weak hpm).trans hK
 refine ⟨_, row, _, hB, rfl, ⟨s.vr, s.rl, s.at_, hS _ (by decide) _ _ HP.rec_, ?_, HP.at_le⟩, (Kq.of_below hw (Nat.le_refl _)).trans hK2, ?_, HB.small, hL⟩
 · obtain ⟨ao', cap', e1, hc, hm, hx, hl⟩ := HP.rl
   refine ⟨ao', cap', e1, hc, hm, hx, ?_⟩
   rcases hl with h | ⟨g, off, e2, hg, hp, hl⟩
   · exact .inl h
   · exact .inr ⟨g, off, e2, by have := hK.size; omega, hp, fun j x hj => (World.cell?_of_block (a := ⟨g, off + j, none⟩) (hK.block g (by omega) (Nat.ne_of_lt hp))).trans (hl j x hj)⟩
 · have := zA3 HP.p (hS _ (by decide))
   rw [e] at this
   exact this
theorem zOq (pr : Nat) (vp : Value) (pool : List CD) (w : World) (hr : zBy pr w) (hp : w.ownsRow 0 112 5 vp pool.length (zB2 pool)) (hpl : pool.length ≤ 256) (hok : ∀ x ∈ pool, P3.CD.Ok x) :
 Calls Tryz.prog 54 #[.pointer (some ⟨pr, 0, none⟩), vp, .string ⟨#[103, 111]⟩, .string ⟨#[40, 73, 41, 73]⟩, .bool false, .bool false, .bool true, .int .i64 2] w fun e w' => zF6 .go pool pr w e w' := by
 obtain ⟨aop, capp, rfl⟩ := zA4 hp
 have hpr : pr < w.heap.size := by obtain ⟨_, _, _, h1, _⟩ := hr; exact (Array.getElem?_eq_some_iff.1 h1).1
 have SO := zA0 zGq
 have NU := zA0 (zFw).n2
 have HM0 := zA0 (fun W pm (h1 : w.heap.size ≤ pm) (h2 : Below w.heap.size w W) h3 => zGp pr _ pool w W false hr hp hpl hok pm h1 h2 h3)
 clear hr hp hok
 go_enter Tryz.func54, Tryz.ntmps54
 go_upto_region 2 with (fail)
 have HQ0 : Hid (((w.alloc (.cells zCu 39)).alloc (.cells (zGd pr aop pool.length capp) 144)).heap[w.heap.size]? = some (.cells zCu 39 (0, 0))) := by
  show _ = _
  rw [(zA2 _ _).block _ (by simp)]
  exact heap_alloc_new w _
 have HB : Hid (Below w.heap.size w ((w.alloc (.cells zCu 39)).alloc (.cells (zGd pr aop pool.length capp) 144))) := (zA2 w _).alloc (zA2 w _).size _
 have HM := zA0 (HM0.out ((w.alloc (.cells zCu 39)).alloc (.cells (zGd pr aop pool.length capp) 144)) (w.heap.size + 1) (Nat.le_succ _) HB.out (zCb (by simp)))
 clear HM0
 generalize ((w.alloc (.cells zCu 39)).alloc (.cells (zGd pr aop pool.length capp) 144)) = W2 at *
 have hpm : w.heap.size < w.heap.size + 1 := Nat.lt_succ_self _
 generalize w.heap.size + 1 = pm at *
 have HK := zA0 (Kq.refl pm pr W2)
 go_upto_region 21 with (first | (go_at_call 98; refine (zAf _ pr _ _ _ _ _ _ _ _ _ HM.out (by omega)).mono ?_; rintro e wn ⟨rfl, hm, hk⟩; have HM2 := zA0 hm; have HK2 := zA0 (HK.out.trans hk); clear HM HK hk hm; have HM := HM2; have HK := HK2; clear HM2 HK2) | (go_at_call 99; refine (zRq _ pr _ _ _ _ _ _ HM.out (by omega)).mono ?_; rintro e wn ⟨rfl, hm, hk⟩; have HM2 := zA0 hm; have HK2 := zA0 (HK.out.trans hk); clear HM HK hk hm; have HM := HM2; have HK := HK2; clear HM2 HK2) | (go_at_call 100; refine (SO.out _ pr _ _ _ _ _ HM.out (by omega)).mono ?_; rintro e wn ⟨rfl, σ1, hs1, hm, hk⟩; have HM2 := zA0 hm; have HK2 := zA0 (HK.out.trans hk); clear HM HK hk hm; have HM := HM2; have HK := HK2; clear HM2 HK2) | (go_at_call 101; refine (NU.out _ pr _ _ _ _ _ _ HM.out (by decide)).mono ?_; rintro e wn ⟨rfl, σ2, hs2, hm, hk⟩; have HM2 := zA0 hm; have HK2 := zA0 (HK.out.trans hk); clear HM HK hk hm; have HM := HM2; have HK := HK2; clear HM2 HK2))
 have hbd : zBm .go pool (σ2.put 172 0 0) := ⟨σ1, hs1, by rw [if_pos (show BK.gv .go = true from rfl)]; exact ⟨σ2, hs2, rfl⟩⟩
 have HBD := zA0 hbd
 have hmd := zBt hbd hpl
 have HDN := zA0 (zGt _ pr pm _ _ _ _ ⟨#[103, 111]⟩ ⟨#[40, 73, 41, 73]⟩ false _ HM.out hmd.refs (by omega) hmd.code hmd.lines (by have := hmd.lab; omega))
 have HQ1 := zA0 ((HK.out.block w.heap.size hpm (by omega)).trans HQ0.out)
 have HVP : Hid (∃ ao cap, wn.cell? ⟨pm, 1, none⟩ = some (.slice ao (σ2.put 172 0 0).pool.length cap)) := by
  obtain ⟨s, hP, -, hsg⟩ := HM.out
  obtain ⟨ao, cap, e⟩ := zA4 hP.p
  refine ⟨ao, cap, ?_⟩
  have := zA1 hP.blk 1 (v := s.vp) rfl
  rw [this, e, show s.pool = (σ2.put 172 0 0).pool from congrArg SG.pool hsg]
 clear hbd hmd hs1 hs2 SO NU HQ0
 generalize (σ2.put 172 0 0) = σF at *
 obtain ⟨aoq, capq, hvp⟩ := HVP.out
 clear HVP
 go_upto_region 22 with (go_at_call 102; refine HDN.out.mono ?_; intro e wd hq; obtain ⟨ac, nc, capc, ah, nh, caph, af, nf, capf, he, hbd, hli⟩ := zK6.parts (k := .go) hq; have he' : e = .returned (.agg (zGg ac nc capc ah nh caph af nf capf)) := he; subst he'; have HBD2 := zA0 hbd; have HLI := zA0 hli; clear hbd hli he hq)
 have HSA : Hid (∀ T, Same T wn (wd.alloc (.cells (zGg ac nc capc ah nh caph af nf capf) 39))) := fun T => (Same.of_below HBD2.out).trans (Same.of_below (zA2 wd _))
 have HQA := zA0 (HSA.out _ _ _ HQ1.out)
 have hlp := zDl hvp
 have hva : (wd.alloc (.cells (zGg ac nc capc ah nh caph af nf capf) 39)).cell? ⟨pm, 1, none⟩ = some (.slice aoq σF.pool.length capq) := ((zA2 wd _).cell (Nat.lt_of_lt_of_le hlp HBD2.out.size)).trans ((HBD2.out.cell hlp).trans hvp)
 have SA := zA0 (HS22.of (heap_alloc_new wd (.cells (zGg ac nc capc ah nh caph af nf capf) 39)) hva)
 have HBX := zA0 (HBD2.out.trans ((zA2 wd (.cells (zGg ac nc capc ah nh caph af nf capf) 39)).mono HBD2.out.size))
 have hgz : wd.heap.size ≠ w.heap.size := by have h1 := HBD2.out.size; have h2 := HK.out.size; have h3 := (Array.getElem?_eq_some_iff.1 HQ1.out).1; omega
 have HXA := zA0 (heap_alloc_new wd (.cells (zGg ac nc capc ah nh caph af nf capf) 39))
 have HAD := zA0 (zA2 wd (.cells (zGg ac nc capc ah nh caph af nf capf) 39))
 generalize (wd.alloc (.cells (zGg ac nc capc ah nh caph af nf capf) 39)) = WA at *
 have SB : Hid (HS22 wd.heap.size pm (.string ⟨#[103, 111]⟩) (.string ⟨#[40, 73, 41, 73]⟩) (.bool false) (.bool false) (.int .i64 16) (.int .i64 10) (.slice ac nc capc) (.slice ah nh caph) (.slice af nf capf) (.slice aoq σF.pool.length capq) WA.drew) := SA.out
 have HQB : Hid (WA.drew.heap[w.heap.size]? = some (.cells zCu 39 (0, 0))) := HQA.out
 have SC := zA0 (HS22.of (W := WA.drew.setRow w.heap.size (zGg ac nc capc ah nh caph af nf capf)) ((setRow_other _ _ _ _ hgz).trans HXA.out) ((World.cell?_of_block (a := ⟨pm, 1, none⟩) (setRow_other _ _ _ _ (Nat.ne_of_gt hpm))).trans hva))
 have HZA := zA0 (zGb.row (cs := (zGg ac nc capc ah nh caph af nf capf)) HQB.out)
 have HQ := HQB
 clear hva HXA
 refine wp_region_noPanic ?_
 refine wp_region_held_drew (S := (HS22 wd.heap.size pm (.string ⟨#[103, 111]⟩) (.string ⟨#[40, 73, 41, 73]⟩) (.bool false) (.bool false) (.int .i64 16) (.int .i64 10) (.slice ac nc capc) (.slice ah nh caph) (.slice af nf capf) (.slice aoq σF.pool.length capq))) (by kernel_rfl) ?_ (fun hHeld => ?_)
 · (try dsimp only); first | exact SA.out | exact SB.out | exact SC.out
 refine tH 0 ?q0 rfl rfl ?q1 ?q2
 case q1 => intro w hSw; (try dsimp only at hSw); go_simp; obtain ⟨S0, S1, S2, S3, S4, S5, S6, S7, S8, S9⟩ := hSw; go_simp; try with_reducible rfl
 try simp only [Act.put, sq1, sq2, sq3]
 refine tH 1 ?q3 rfl rfl ?q4 ?q5
 case q4 => intro w hSw; (try dsimp only at hSw); go_simp; try with_reducible rfl
 try simp only [Act.put, sq1, sq2, sq3]
 refine tH 2 ?q6 rfl rfl ?q7 ?q8
 case q7 => intro w hSw; (try dsimp only at hSw); go_simp; try with_reducible rfl
 try simp only [Act.put, sq1, sq2, sq3]
 refine tH 3 ?q9 rfl rfl ?qa ?qb
 case qa => intro w hSw; (try dsimp only at hSw); go_simp; try with_reducible rfl
 try simp only [Act.put, sq1, sq2, sq3]
 refine tH 4 ?qc rfl rfl ?qd ?qe
 case qd => intro w hSw; (try dsimp only at hSw); go_simp; obtain ⟨S0, S1, S2, S3, S4, S5, S6, S7, S8, S9⟩ := hSw; go_simp; try with_reducible rfl
 try simp only [Act.put, sq1, sq2, sq3]
 refine oH 5 rfl (fun K hK => ?_)
 refine zC5 rfl 39 _ _ rfl w.heap.size (zGg ac nc capc ah nh caph af nf capf) rfl rfl 39 _ HQ.out (by kernel_rfl) rfl (by simp [Value.oneCell']) ?_
 refine hK.out _ _ ?qf ?qg
 case qf => (try dsimp only); first | exact SA.out | exact SB.out | exact SC.out
 clear hK K hHeld
 intro hHeld
 try simp only [Act.put]
 refine tH 6 ?qh rfl rfl ?qi ?qj
 case qi => intro w hSw; (try dsimp only at hSw); go_simp; try with_reducible rfl
 try simp only [Act.put, sq1, sq2, sq3]
 refine eH ?_
 refine NoPanic.normal ?_
 generalize WA.drew.setRow w.heap.size (zGg ac nc capc ah nh caph af nf capf) = WZ at *
 go_wp2_with fail
 refine bodyPost_ret (zC6 rfl _ _ w.heap.size 39 _ (0, 0) _ rfl HZA.out.1 Tryz.underlying39 rfl (by kernel_rfl)) rfl ?_
 have HS9 : Hid (∀ T, T ≠ 39 → Same T wn WZ) := fun T hT => (Same.of_below HBX.out).trans (HZA.out.2.1 T hT)
 have HA9 : Hid (∀ T, Same T wd WA) := fun T => Same.of_below HAD.out
 have HL9 := HLI.out.wk (Nat.le_trans (Nat.le_of_lt (Array.getElem?_eq_some_iff.1 HQ1.out).1) (Nat.le_refl _))
 refine zGn hpr HBD.out HB.out (Nat.le_of_lt hpm) HM.out HK.out HS9.out ?_ ?_ hvp
 · exact zIw (Kq.of_below HBX.out (Nat.le_of_lt (Array.getElem?_eq_some_iff.1 HQ1.out).1)) HZA.out
 · exact HL9.same ((HA9.out _).trans (HZA.out.2.1 _ (by decide))) ((HA9.out _).trans (HZA.out.2.1 _ (by decide))) ((HA9.out _).trans (HZA.out.2.1 _ (by decide))) ((HA9.out _).trans (HZA.out.2.1 _ (by decide)))
theorem zLf (pr : Nat) (vp : Value) (pool : List CD) (w : World) (hr : zBy pr w) (hp : w.ownsRow 0 112 5 vp pool.length (zB2 pool)) (hpl : pool.length ≤ 256) (hok : ∀ x ∈ pool, P3.CD.Ok x) :
 Calls Tryz.prog 54 #[.pointer (some ⟨pr, 0, none⟩), vp, .string ⟨#[114, 117, 110]⟩, .string ⟨#[40, 41, 86]⟩, .bool false, .bool false, .bool false, .int .i64 1] w fun e w' => zF6 .run pool pr w e w' := by
 obtain ⟨aop, capp, rfl⟩ := zA4 hp
 have hpr : pr < w.heap.size := by obtain ⟨_, _, _, h1, _⟩ := hr; exact (Array.getElem?_eq_some_iff.1 h1).1
 have SO := zA0 zGq
 have NU := zA0 (zFw).n2
 have HM0 := zA0 (fun W pm (h1 : w.heap.size ≤ pm) (h2 : Below w.heap.size w W) h3 => zGp pr _ pool w W false hr hp hpl hok pm h1 h2 h3)
 clear hr hp hok
 go_enter Tryz.func54, Tryz.ntmps54
 go_upto_region 2 with (fail)
 have HQ0 : Hid (((w.alloc (.cells zCu 39)).alloc (.cells (zGd pr aop pool.length capp) 144)).heap[w.heap.size]? = some (.cells zCu 39 (0, 0))) := by
  show _ = _
  rw [(zA2 _ _).block _ (by simp)]
  exact heap_alloc_new w _
 have HB : Hid (Below w.heap.size w ((w.alloc (.cells zCu 39)).alloc (.cells (zGd pr aop pool.length capp) 144))) := (zA2 w _).alloc (zA2 w _).size _
 have HM := zA0 (HM0.out ((w.alloc (.cells zCu 39)).alloc (.cells (zGd pr aop pool.length capp) 144)) (w.heap.size + 1) (Nat.le_succ _) HB.out (zCb (by simp)))
 clear HM0
 generalize ((w.alloc (.cells zCu 39)).alloc (.cells (zGd pr aop pool.length capp) 144)) = W2 at *
 have hpm : w.heap.size < w.heap.size + 1 := Nat.lt_succ_self _
 generalize w.heap.size + 1 = pm at *
 have HK := zA0 (Kq.refl pm pr W2)
 go_upto_region 21 with (first | (go_at_call 98; refine (zAf _ pr _ _ _ _ _ _ _ _ _ HM.out (by omega)).mono ?_; rintro e wn ⟨rfl, hm, hk⟩; have HM2 := zA0 hm; have HK2 := zA0 (HK.out.trans hk); clear HM HK hk hm; have HM := HM2; have HK := HK2; clear HM2 HK2) | (go_at_call 99; refine (zQ5 _ pr _ _ _ _ _ _ HM.out (by omega)).mono ?_; rintro e wn ⟨rfl, hm, hk⟩; have HM2 := zA0 hm; have HK2 := zA0 (HK.out.trans hk); clear HM HK hk hm; have HM := HM2; have HK := HK2; clear HM2 HK2) | (go_at_call 100; refine (SO.out _ pr _ _ _ _ _ HM.out (by omega)).mono ?_; rintro e wn ⟨rfl, σ1, hs1, hm, hk⟩; have HM2 := zA0 hm; have HK2 := zA0 (HK.out.trans hk); clear HM HK hk hm; have HM := HM2; have HK := HK2; clear HM2 HK2) | (go_at_call 101; refine (NU.out _ pr _ _ _ _ _ _ HM.out (by decide)).mono ?_; rintro e wn ⟨rfl, σ2, hs2, hm, hk⟩; have HM2 := zA0 hm; have HK2 := zA0 (HK.out.trans hk); clear HM HK hk hm; have HM := HM2; have HK := HK2; clear HM2 HK2))
 have hbd : zBm .run pool (σ1.put 177 0 0) := ⟨σ1, hs1, rfl⟩
 have HBD := zA0 hbd
 have hmd := zBt hbd hpl
 have HDN := zA0 (zGt _ pr pm _ _ _ _ ⟨#[114, 117, 110]⟩ ⟨#[40, 41, 86]⟩ false _ HM.out hmd.refs (by omega) hmd.code hmd.lines (by have := hmd.lab; omega))
 have HQ1 := zA0 ((HK.out.block w.heap.size hpm (by omega)).trans HQ0.out)
 have HVP : Hid (∃ ao cap, wn.cell? ⟨pm, 1, none⟩ = some (.slice ao (σ1.put 177 0 0).pool.length cap)) := by
  obtain ⟨s, hP, -, hsg⟩ := HM.out
  obtain ⟨ao, cap, e⟩ := zA4 hP.p
  refine ⟨ao, cap, ?_⟩
  have := zA1 hP.blk 1 (v := s.vp) rfl
  rw [this, e, show s.pool = (σ1.put 177 0 0).pool from congrArg SG.pool hsg]
 clear hbd hmd hs1 SO NU HQ0
 generalize (σ1.put 177 0 0) = σF at *
 obtain ⟨aoq, capq, hvp⟩ := HVP.out
 clear HVP
 go_upto_region 22 with (go_at_call 102; refine HDN.out.mono ?_; intro e wd hq; obtain ⟨ac, nc, capc, ah, nh, caph, af, nf, capf, he, hbd, hli⟩ := zK6.parts (k := .run) hq; have he' : e = .returned (.agg (zGl ac nc capc ah nh caph af nf capf)) := he; subst he'; have HBD2 := zA0 hbd; have HLI := zA0 hli; clear hbd hli he hq)
 have HSA : Hid (∀ T, Same T wn (wd.alloc (.cells (zGl ac nc capc ah nh caph af nf capf) 39))) := fun T => (Same.of_below HBD2.out).trans (Same.of_below (zA2 wd _))
 have HQA := zA0 (HSA.out _ _ _ HQ1.out)
 have hlp := zDl hvp
 have hva : (wd.alloc (.cells (zGl ac nc capc ah nh caph af nf capf) 39)).cell? ⟨pm, 1, none⟩ = some (.slice aoq σF.pool.length capq) := ((zA2 wd _).cell (Nat.lt_of_lt_of_le hlp HBD2.out.size)).trans ((HBD2.out.cell hlp).trans hvp)
 have SA := zA0 (HS22.of (heap_alloc_new wd (.cells (zGl ac nc capc ah nh caph af nf capf) 39)) hva)
 have HBX := zA0 (HBD2.out.trans ((zA2 wd (.cells (zGl ac nc capc ah nh caph af nf capf) 39)).mono HBD2.out.size))
 have hgz : wd.heap.size ≠ w.heap.size := by have h1 := HBD2.out.size; have h2 := HK.out.size; have h3 := (Array.getElem?_eq_some_iff.1 HQ1.out).1; omega
 have HXA := zA0 (heap_alloc_new wd (.cells (zGl ac nc capc ah nh caph af nf capf) 39))
 have HAD := zA0 (zA2 wd (.cells (zGl ac nc capc ah nh caph af nf capf) 39))
 generalize (wd.alloc (.cells (zGl ac nc capc ah nh caph af nf capf) 39)) = WA at *
 have SB : Hid (HS22 wd.heap.size pm (.string ⟨#[114, 117, 110]⟩) (.string ⟨#[40, 41, 86]⟩) (.bool false) (.bool false) (.int .i64 16) (.int .i64 10) (.slice ac nc capc) (.slice ah nh caph) (.slice af nf capf) (.slice aoq σF.pool.length capq) WA.drew) := SA.out
 have HQB : Hid (WA.drew.heap[w.heap.size]? = some (.cells zCu 39 (0, 0))) := HQA.out
 have SC := zA0 (HS22.of (W := WA.drew.setRow w.heap.size (zGl ac nc capc ah nh caph af nf capf)) ((setRow_other _ _ _ _ hgz).trans HXA.out) ((World.cell?_of_block (a := ⟨pm, 1, none⟩) (setRow_other _ _ _ _ (Nat.ne_of_gt hpm))).trans hva))
 have HZA := zA0 (zGb.row (cs := (zGl ac nc capc ah nh caph af nf capf)) HQB.out)
 have HQ := HQB
 clear hva HXA
 refine wp_region_noPanic ?_
 refine wp_region_held_drew (S := (HS22 wd.heap.size pm (.string ⟨#[114, 117, 110]⟩) (.string ⟨#[40, 41, 86]⟩) (.bool false) (.bool false) (.int .i64 16) (.int .i64 10) (.slice ac nc capc) (.slice ah nh caph) (.slice af nf capf) (.slice aoq σF.pool.length capq))) (by kernel_rfl) ?_ (fun hHeld => ?_)
 · (try dsimp only); first | exact SA.out | exact SB.out | exact SC.out
 refine tH 0 ?qk rfl rfl ?ql ?qm
 case ql => intro w hSw; (try dsimp only at hSw); go_simp; obtain ⟨S0, S1, S2, S3, S4, S5, S6, S7, S8, S9⟩ := hSw; go_simp; try with_reducible rfl
 try simp only [Act.put, sq1, sq2, sq3]
 refine tH 1 ?qn rfl rfl ?qo ?qp
 case qo => intro w hSw; (try dsimp only at hSw); go_simp; try with_reducible rfl
 try simp only [Act.put, sq1, sq2, sq3]
 refine tH 2 ?qq rfl rfl ?qr ?qs
 case qr => intro w hSw; (try dsimp only at hSw); go_simp; try with_reducible rfl
 try simp only [Act.put, sq1, sq2, sq3]
 refine tH 3 ?qt rfl rfl ?qu ?qv
 case qu => intro w hSw; (try dsimp only at hSw); go_simp; try with_reducible rfl
 try simp only [Act.put, sq1, sq2, sq3]
 refine tH 4 ?qw rfl rfl ?qx ?qy
 case qx => intro w hSw; (try dsimp only at hSw); go_simp; obtain ⟨S0, S1, S2, S3, S4, S5, S6, S7, S8, S9⟩ := hSw; go_simp; try with_reducible rfl
 try simp only [Act.put, sq1, sq2, sq3]
 refine oH 5 rfl (fun K hK => ?_)
 refine zC5 rfl 39 _ _ rfl w.heap.size (zGl ac nc capc ah nh caph af nf capf) rfl rfl 39 _ HQ.out (by kernel_rfl) rfl (by simp [Value.oneCell']) ?_
 refine hK.out _ _ ?qz ?qA
 case qz => (try dsimp only); first | exact SA.out | exact SB.out | exact SC.out
 clear hK K hHeld
 intro hHeld
 try simp only [Act.put]
 refine tH 6 ?qB rfl rfl ?qC ?qD
 case qC => intro w hSw; (try dsimp only at hSw); go_simp; try with_reducible rfl
 try simp only [Act.put, sq1, sq2, sq3]
 refine eH ?_
 refine NoPanic.normal ?_
 generalize WA.drew.setRow w.heap.size (zGl ac nc capc ah nh caph af nf capf) = WZ at *
 go_wp2_with fail
 refine bodyPost_ret (zC6 rfl _ _ w.heap.size 39 _ (0, 0) _ rfl HZA.out.1 Tryz.underlying39 rfl (by kernel_rfl)) rfl ?_
 have HS9 : Hid (∀ T, T ≠ 39 → Same T wn WZ) := fun T hT => (Same.of_below HBX.out).trans (HZA.out.2.1 T hT)
 have HA9 : Hid (∀ T, Same T wd WA) := fun T => Same.of_below HAD.out
 have HL9 := HLI.out.wk (Nat.le_trans (Nat.le_of_lt (Array.getElem?_eq_some_iff.1 HQ1.out).1) (Nat.le_refl _))
 refine zGn hpr HBD.out HB.out (Nat.le_of_lt hpm) HM.out HK.out HS9.out ?_ ?_ hvp
 · exact zIw (Kq.of_below HBX.out (Nat.le_of_lt (Array.getElem?_eq_some_iff.1 HQ1.out).1)) HZA.out
 · exact HL9.same ((HA9.out _).trans (HZA.out.2.1 _ (by decide))) ((HA9.out _).trans (HZA.out.2.1 _ (by decide))) ((HA9.out _).trans (HZA.out.2.1 _ (by decide))) ((HA9.out _).trans (HZA.out.2.1 _ (by decide)))
theorem zK4 (pr : Nat) (vp : Value) (pool : List CD) (w : World) (hr : zBy pr w) (hp : w.ownsRow 0 112 5 vp pool.length (zB2 pool)) (hpl : pool.length ≤ 256) (hok : ∀ x ∈ pool, P3.CD.Ok x) :
 Calls Tryz.prog 54 #[.pointer (some ⟨pr, 0, none⟩), vp, .string ⟨#[109, 97, 105, 110]⟩, .string ⟨#[40, 41, 86]⟩, .bool true, .bool false, .bool false, .int .i64 0] w fun e w' => zF6 .main pool pr w e w' := by
 obtain ⟨aop, capp, rfl⟩ := zA4 hp
 have hpr : pr < w.heap.size := by obtain ⟨_, _, _, h1, _⟩ := hr; exact (Array.getElem?_eq_some_iff.1 h1).1
 have SO := zA0 zGq
 have NU := zA0 (zFw).n2
 have HM0 := zA0 (fun W pm (h1 : w.heap.size ≤ pm) (h2 : Below w.heap.size w W) h3 => zGp pr _ pool w W false hr hp hpl hok pm h1 h2 h3)
 clear hr hp hok
 go_enter Tryz.func54, Tryz.ntmps54
 go_upto_region 2 with (fail)
 have HQ0 : Hid (((w.alloc (.cells zCu 39)).alloc (.cells (zGd pr aop pool.length capp) 144)).heap[w.heap.size]? = some (.cells zCu 39 (0, 0))) := by
  show _ = _
  rw [(zA2 _ _).block _ (by simp)]
  exact heap_alloc_new w _
 have HB : Hid (Below w.heap.size w ((w.alloc (.cells zCu 39)).alloc (.cells (zGd pr aop pool.length capp) 144))) := (zA2 w _).alloc (zA2 w _).size _
 have HM := zA0 (HM0.out ((w.alloc (.cells zCu 39)).alloc (.cells (zGd pr aop pool.length capp) 144)) (w.heap.size + 1) (Nat.le_succ _) HB.out (zCb (by simp)))
 clear HM0
 generalize ((w.alloc (.cells zCu 39)).alloc (.cells (zGd pr aop pool.length capp) 144)) = W2 at *
 have hpm : w.heap.size < w.heap.size + 1 := Nat.lt_succ_self _
 generalize w.heap.size + 1 = pm at *
 have HK := zA0 (Kq.refl pm pr W2)
 go_upto_region 21 with (first | (go_at_call 98; refine (zAf _ pr _ _ _ _ _ _ _ _ _ HM.out (by omega)).mono ?_; rintro e wn ⟨rfl, hm, hk⟩; have HM2 := zA0 hm; have HK2 := zA0 (HK.out.trans hk); clear HM HK hk hm; have HM := HM2; have HK := HK2; clear HM2 HK2) | (go_at_call 99; refine (zNe _ pr _ _ _ _ _ _ HM.out (by omega)).mono ?_; rintro e wn ⟨rfl, hm, hk⟩; have HM2 := zA0 hm; have HK2 := zA0 (HK.out.trans hk); clear HM HK hk hm; have HM := HM2; have HK := HK2; clear HM2 HK2) | (go_at_call 100; refine (SO.out _ pr _ _ _ _ _ HM.out (by omega)).mono ?_; rintro e wn ⟨rfl, σ1, hs1, hm, hk⟩; have HM2 := zA0 hm; have HK2 := zA0 (HK.out.trans hk); clear HM HK hk hm; have HM := HM2; have HK := HK2; clear HM2 HK2) | (go_at_call 101; refine (NU.out _ pr _ _ _ _ _ _ HM.out (by decide)).mono ?_; rintro e wn ⟨rfl, σ2, hs2, hm, hk⟩; have HM2 := zA0 hm; have HK2 := zA0 (HK.out.trans hk); clear HM HK hk hm; have HM := HM2; have HK := HK2; clear HM2 HK2))
 have hbd : zBm .main pool (σ1.put 177 0 0) := ⟨σ1, hs1, rfl⟩
 have HBD := zA0 hbd
 have hmd := zBt hbd hpl
 have HDN := zA0 (zGt _ pr pm _ _ _ _ ⟨#[109, 97, 105, 110]⟩ ⟨#[40, 41, 86]⟩ true _ HM.out hmd.refs (by omega) hmd.code hmd.lines (by have := hmd.lab; omega))
 have HQ1 := zA0 ((HK.out.block w.heap.size hpm (by omega)).trans HQ0.out)
 have HVP : Hid (∃ ao cap, wn.cell? ⟨pm, 1, none⟩ = some (.slice ao (σ1.put 177 0 0).pool.length cap)) := by
  obtain ⟨s, hP, -, hsg⟩ := HM.out
  obtain ⟨ao, cap, e⟩ := zA4 hP.p
  refine ⟨ao, cap, ?_⟩
  have := zA1 hP.blk 1 (v := s.vp) rfl
  rw [this, e, show s.pool = (σ1.put 177 0 0).pool from congrArg SG.pool hsg]
 clear hbd hmd hs1 SO NU HQ0
 generalize (σ1.put 177 0 0) = σF at *
 obtain ⟨aoq, capq, hvp⟩ := HVP.out
 clear HVP
 go_upto_region 22 with (go_at_call 102; refine HDN.out.mono ?_; intro e wd hq; obtain ⟨ac, nc, capc, ah, nh, caph, af, nf, capf, he, hbd, hli⟩ := zK6.parts (k := .main) hq; have he' : e = .returned (.agg (zGh ac nc capc ah nh caph af nf capf)) := he; subst he'; have HBD2 := zA0 hbd; have HLI := zA0 hli; clear hbd hli he hq)
 have HSA : Hid (∀ T, Same T wn (wd.alloc (.cells (zGh ac nc capc ah nh caph af nf capf) 39))) := fun T => (Same.of_below HBD2.out).trans (Same.of_below (zA2 wd _))
 have HQA := zA0 (HSA.out _ _ _ HQ1.out)
 have hlp := zDl hvp
 have hva : (wd.alloc (.cells (zGh ac nc capc ah nh caph af nf capf) 39)).cell? ⟨pm, 1, none⟩ = some (.slice aoq σF.pool.length capq) := ((zA2 wd _).cell (Nat.lt_of_lt_of_le hlp HBD2.out.size)).trans ((HBD2.out.cell hlp).trans hvp)
 have SA := zA0 (HS22.of (heap_alloc_new wd (.cells (zGh ac nc capc ah nh caph af nf capf) 39)) hva)
 have HBX := zA0 (HBD2.out.trans ((zA2 wd (.cells (zGh ac nc capc ah nh caph af nf capf) 39)).mono HBD2.out.size))
 have hgz : wd.heap.size ≠ w.heap.size := by have h1 := HBD2.out.size; have h2 := HK.out.size; have h3 := (Array.getElem?_eq_some_iff.1 HQ1.out).1; omega
 have HXA := zA0 (heap_alloc_new wd (.cells (zGh ac nc capc ah nh caph af nf capf) 39))
 have HAD := zA0 (zA2 wd (.cells (zGh ac nc capc ah nh caph af nf capf) 39))
 generalize (wd.alloc (.cells (zGh ac nc capc ah nh caph af nf capf) 39)) = WA at *
 have SB : Hid (HS22 wd.heap.size pm (.string ⟨#[109, 97, 105, 110]⟩) (.string ⟨#[40, 41, 86]⟩) (.bool true) (.bool false) (.int .i64 16) (.int .i64 10) (.slice ac nc capc) (.slice ah nh caph) (.slice af nf capf) (.slice aoq σF.pool.length capq) WA.drew) := SA.out
 have HQB : Hid (WA.drew.heap[w.heap.size]? = some (.cells zCu 39 (0, 0))) := HQA.out
 have SC := zA0 (HS22.of (W := WA.drew.setRow w.heap.size (zGh ac nc capc ah nh caph af nf capf)) ((setRow_other _ _ _ _ hgz).trans HXA.out) ((World.cell?_of_block (a := ⟨pm, 1, none⟩) (setRow_other _ _ _ _ (Nat.ne_of_gt hpm))).trans hva))
 have HZA := zA0 (zGb.row (cs := (zGh ac nc capc ah nh caph af nf capf)) HQB.out)
 have HQ := HQB
 clear hva HXA
 refine wp_region_noPanic ?_
 refine wp_region_held_drew (S := (HS22 wd.heap.size pm (.string ⟨#[109, 97, 105, 110]⟩) (.string ⟨#[40, 41, 86]⟩) (.bool true) (.bool false) (.int .i64 16) (.int .i64 10) (.slice ac nc capc) (.slice ah nh caph) (.slice af nf capf) (.slice aoq σF.pool.length capq))) (by kernel_rfl) ?_ (fun hHeld => ?_)
 · (try dsimp only); first | exact SA.out | exact SB.out | exact SC.out
 refine tH 0 ?qE rfl rfl ?qF ?qG
 case qF => intro w hSw; (try dsimp only at hSw); go_simp; obtain ⟨S0, S1, S2, S3, S4, S5, S6, S7, S8, S9⟩ := hSw; go_simp; try with_reducible rfl
 try simp only [Act.put, sq1, sq2, sq3]
 refine tH 1 ?qH rfl rfl ?qI ?qJ
 case qI => intro w hSw; (try dsimp only at hSw); go_simp; try with_reducible rfl
 try simp only [Act.put, sq1, sq2, sq3]
 refine tH 2 ?qK rfl rfl ?qL ?qM
 case qL => intro w hSw; (try dsimp only at hSw); go_simp; try with_reducible rfl
 try simp only [Act.put, sq1, sq2, sq3]
 refine tH 3 ?qN rfl rfl ?qO ?qP
 case qO => intro w hSw; (try dsimp only at hSw); go_simp; try with_reducible rfl
 try simp only [Act.put, sq1, sq2, sq3]
 refine tH 4 ?qQ rfl rfl ?qR ?qS
 case qR => intro w hSw; (try dsimp only at hSw); go_simp; obtain ⟨S0, S1, S2, S3, S4, S5, S6, S7, S8, S9⟩ := hSw; go_simp; try with_reducible rfl
 try simp only [Act.put, sq1, sq2, sq3]
 refine oH 5 rfl (fun K hK => ?_)
 refine zC5 rfl 39 _ _ rfl w.heap.size (zGh ac nc capc ah nh caph af nf capf) rfl rfl 39 _ HQ.out (by kernel_rfl) rfl (by simp [Value.oneCell']) ?_
 refine hK.out _ _ ?qT ?qU
 case qT => (try dsimp only); first | exact SA.out | exact SB.out | exact SC.out
 clear hK K hHeld
 intro hHeld
 try simp only [Act.put]
 refine tH 6 ?qV rfl rfl ?qW ?qX
 case qW => intro w hSw; (try dsimp only at hSw); go_simp; try with_reducible rfl
 try simp only [Act.put, sq1, sq2, sq3]
 refine eH ?_
 refine NoPanic.normal ?_
 generalize WA.drew.setRow w.heap.size (zGh ac nc capc ah nh caph af nf capf) = WZ at *
 go_wp2_with fail
 refine bodyPost_ret (zC6 rfl _ _ w.heap.size 39 _ (0, 0) _ rfl HZA.out.1 Tryz.underlying39 rfl (by kernel_rfl)) rfl ?_
 have HS9 : Hid (∀ T, T ≠ 39 → Same T wn WZ) := fun T hT => (Same.of_below HBX.out).trans (HZA.out.2.1 T hT)
 have HA9 : Hid (∀ T, Same T wd WA) := fun T => Same.of_below HAD.out
 have HL9 := HLI.out.wk (Nat.le_trans (Nat.le_of_lt (Array.getElem?_eq_some_iff.1 HQ1.out).1) (Nat.le_refl _))
 refine zGn hpr HBD.out HB.out (Nat.le_of_lt hpm) HM.out HK.out HS9.out ?_ ?_ hvp
 · exact zIw (Kq.of_below HBX.out (Nat.le_of_lt (Array.getElem?_eq_some_iff.1 HQ1.out).1)) HZA.out
 · exact HL9.same ((HA9.out _).trans (HZA.out.2.1 _ (by decide))) ((HA9.out _).trans (HZA.out.2.1 _ (by decide))) ((HA9.out _).trans (HZA.out.2.1 _ (by decide))) ((HA9.out _).trans (HZA.out.2.1 _ (by decide)))
theorem zK9 (pr : Nat) (vp : Value) (pool : List CD) (w : World) (hr : zBy pr w) (hp : w.ownsRow 0 112 5 vp pool.length (zB2 pool)) (hpl : pool.length ≤ 256) (hok : ∀ x ∈ pool, P3.CD.Ok x) :
 Calls Tryz.prog 54 #[.pointer (some ⟨pr, 0, none⟩), vp, .string ⟨#[99, 97, 108, 99]⟩, .string ⟨#[40, 73, 73, 41, 73]⟩, .bool true, .bool true, .bool true, .int .i64 2] w fun e w' => zF6 .calc pool pr w e w' := by
 obtain ⟨aop, capp, rfl⟩ := zA4 hp
 have hpr : pr < w.heap.size := by obtain ⟨_, _, _, h1, _⟩ := hr; exact (Array.getElem?_eq_some_iff.1 h1).1
 have SO := zA0 zGq
 have NU := zA0 (zFw).n2
 have HM0 := zA0 (fun W pm (h1 : w.heap.size ≤ pm) (h2 : Below w.heap.size w W) h3 => zGp pr _ pool w W true hr hp hpl hok pm h1 h2 h3)
 clear hr hp hok
 go_enter Tryz.func54, Tryz.ntmps54
 go_upto_region 2 with (fail)
 have HQ0 : Hid (((w.alloc (.cells zCu 39)).alloc (.cells (zQ9 pr aop pool.length capp) 144)).heap[w.heap.size]? = some (.cells zCu 39 (0, 0))) := by
  show _ = _
  rw [(zA2 _ _).block _ (by simp)]
  exact heap_alloc_new w _
 have HB : Hid (Below w.heap.size w ((w.alloc (.cells zCu 39)).alloc (.cells (zQ9 pr aop pool.length capp) 144))) := (zA2 w _).alloc (zA2 w _).size _
 have HM := zA0 (HM0.out ((w.alloc (.cells zCu 39)).alloc (.cells (zQ9 pr aop pool.length capp) 144)) (w.heap.size + 1) (Nat.le_succ _) HB.out (zCb (by simp)))
 clear HM0
 generalize ((w.alloc (.cells zCu 39)).alloc (.cells (zQ9 pr aop pool.length capp) 144)) = W2 at *
 have hpm : w.heap.size < w.heap.size + 1 := Nat.lt_succ_self _
 generalize w.heap.size + 1 = pm at *
 have HK := zA0 (Kq.refl pm pr W2)
 go_upto_region 21 with (first | (go_at_call 98; refine (zAf _ pr _ _ _ _ _ _ _ _ _ HM.out (by omega)).mono ?_; rintro e wn ⟨rfl, hm, hk⟩; have HM2 := zA0 hm; have HK2 := zA0 (HK.out.trans hk); clear HM HK hk hm; have HM := HM2; have HK := HK2; clear HM2 HK2) | (go_at_call 99; refine (zOg _ pr _ _ _ _ _ _ HM.out (by omega)).mono ?_; rintro e wn ⟨rfl, hm, hk⟩; have HM2 := zA0 hm; have HK2 := zA0 (HK.out.trans hk); clear HM HK hk hm; have HM := HM2; have HK := HK2; clear HM2 HK2) | (go_at_call 100; refine (SO.out _ pr _ _ _ _ _ HM.out (by omega)).mono ?_; rintro e wn ⟨rfl, σ1, hs1, hm, hk⟩; have HM2 := zA0 hm; have HK2 := zA0 (HK.out.trans hk); clear HM HK hk hm; have HM := HM2; have HK := HK2; clear HM2 HK2) | (go_at_call 101; refine (NU.out _ pr _ _ _ _ _ _ HM.out (by decide)).mono ?_; rintro e wn ⟨rfl, σ2, hs2, hm, hk⟩; have HM2 := zA0 hm; have HK2 := zA0 (HK.out.trans hk); clear HM HK hk hm; have HM := HM2; have HK := HK2; clear HM2 HK2))
 have hbd : zBm .calc pool (σ2.put 172 0 0) := ⟨σ1, hs1, by rw [if_pos (show BK.gv .calc = true from rfl)]; exact ⟨σ2, hs2, rfl⟩⟩
 have HBD := zA0 hbd
 have hmd := zBt hbd hpl
 have HDN := zA0 (zGt _ pr pm _ _ _ _ ⟨#[99, 97, 108, 99]⟩ ⟨#[40, 73, 73, 41, 73]⟩ true _ HM.out hmd.refs (by omega) hmd.code hmd.lines (by have := hmd.lab; omega))
 have HQ1 := zA0 ((HK.out.block w.heap.size hpm (by omega)).trans HQ0.out)
 have HVP : Hid (∃ ao cap, wn.cell? ⟨pm, 1, none⟩ = some (.slice ao (σ2.put 172 0 0).pool.length cap)) := by
  obtain ⟨s, hP, -, hsg⟩ := HM.out
  obtain ⟨ao, cap, e⟩ := zA4 hP.p
  refine ⟨ao, cap, ?_⟩
  have := zA1 hP.blk 1 (v := s.vp) rfl
  rw [this, e, show s.pool = (σ2.put 172 0 0).pool from congrArg SG.pool hsg]
 clear hbd hmd hs1 hs2 SO NU HQ0
 generalize (σ2.put 172 0 0) = σF at *
 obtain ⟨aoq, capq, hvp⟩ := HVP.out
 clear HVP
 go_upto_region 22 with (go_at_call 102; refine HDN.out.mono ?_; intro e wd hq; obtain ⟨ac, nc, capc, ah, nh, caph, af, nf, capf, he, hbd, hli⟩ := zK6.parts (k := .calc) hq; have he' : e = .returned (.agg (zGf ac nc capc ah nh caph af nf capf)) := he; subst he'; have HBD2 := zA0 hbd; have HLI := zA0 hli; clear hbd hli he hq)
 have HSA : Hid (∀ T, Same T wn (wd.alloc (.cells (zGf ac nc capc ah nh caph af nf capf) 39))) := fun T => (Same.of_below HBD2.out).trans (Same.of_below (zA2 wd _))
 have HQA := zA0 (HSA.out _ _ _ HQ1.out)
 have hlp := zDl hvp
 have hva : (wd.alloc (.cells (zGf ac nc capc ah nh caph af nf capf) 39)).cell? ⟨pm, 1, none⟩ = some (.slice aoq σF.pool.length capq) := ((zA2 wd _).cell (Nat.lt_of_lt_of_le hlp HBD2.out.size)).trans ((HBD2.out.cell hlp).trans hvp)
 have SA := zA0 (HS22.of (heap_alloc_new wd (.cells (zGf ac nc capc ah nh caph af nf capf) 39)) hva)
 have HBX := zA0 (HBD2.out.trans ((zA2 wd (.cells (zGf ac nc capc ah nh caph af nf capf) 39)).mono HBD2.out.size))
 have hgz : wd.heap.size ≠ w.heap.size := by have h1 := HBD2.out.size; have h2 := HK.out.size; have h3 := (Array.getElem?_eq_some_iff.1 HQ1.out).1; omega
 have HXA := zA0 (heap_alloc_new wd (.cells (zGf ac nc capc ah nh caph af nf capf) 39))
 have HAD := zA0 (zA2 wd (.cells (zGf ac nc capc ah nh caph af nf capf) 39))
 generalize (wd.alloc (.cells (zGf ac nc capc ah nh caph af nf capf) 39)) = WA at *
 have SB : Hid (HS22 wd.heap.size pm (.string ⟨#[99, 97, 108, 99]⟩) (.string ⟨#[40, 73, 73, 41, 73]⟩) (.bool true) (.bool false) (.int .i64 16) (.int .i64 4) (.slice ac nc capc) (.slice ah nh caph) (.slice af nf capf) (.slice aoq σF.pool.length capq) WA.drew) := SA.out
 have HQB : Hid (WA.drew.heap[w.heap.size]? = some (.cells zCu 39 (0, 0))) := HQA.out
 have SC := zA0 (HS22.of (W := WA.drew.setRow w.heap.size (zGf ac nc capc ah nh caph af nf capf)) ((setRow_other _ _ _ _ hgz).trans HXA.out) ((World.cell?_of_block (a := ⟨pm, 1, none⟩) (setRow_other _ _ _ _ (Nat.ne_of_gt hpm))).trans hva))
 have HZA := zA0 (zGb.row (cs := (zGf ac nc capc ah nh caph af nf capf)) HQB.out)
 have HQ := HQB
 clear hva HXA
 refine wp_region_noPanic ?_
 refine wp_region_held_drew (S := (HS22 wd.heap.size pm (.string ⟨#[99, 97, 108, 99]⟩) (.string ⟨#[40, 73, 73, 41, 73]⟩) (.bool true) (.bool false) (.int .i64 16) (.int .i64 4) (.slice ac nc capc) (.slice ah nh caph) (.slice af nf capf) (.slice aoq σF.pool.length capq))) (by kernel_rfl) ?_ (fun hHeld => ?_)
 · (try dsimp only); first | exact SA.out | exact SB.out | exact SC.out
 refine tH 0 ?qY rfl rfl ?qZ ?j0
 case qZ => intro w hSw; (try dsimp only at hSw); go_simp; obtain ⟨S0, S1, S2, S3, S4, S5, S6, S7, S8, S9⟩ := hSw; go_simp; try with_reducible rfl
 try simp only [Act.put, sq1, sq2, sq3]
 refine tH 1 ?j1 rfl rfl ?j2 ?j3
 case j2 => intro w hSw; (try dsimp only at hSw); go_simp; try with_reducible rfl
 try simp only [Act.put, sq1, sq2, sq3]
 refine tH 2 ?j4 rfl rfl ?j5 ?j6
 case j5 => intro w hSw; (try dsimp only at hSw); go_simp; try with_reducible rfl
 try simp only [Act.put, sq1, sq2, sq3]
 refine tH 3 ?j7 rfl rfl ?j8 ?j9
 case j8 => intro w hSw; (try dsimp only at hSw); go_simp; try with_reducible rfl
 try simp only [Act.put, sq1, sq2, sq3]
 refine tH 4 ?ja rfl rfl ?jb ?jc
 case jb => intro w hSw; (try dsimp only at hSw); go_simp; obtain ⟨S0, S1, S2, S3, S4, S5, S6, S7, S8, S9⟩ := hSw; go_simp; try with_reducible rfl
 try simp only [Act.put, sq1, sq2, sq3]
 refine oH 5 rfl (fun K hK => ?_)
 refine zC5 rfl 39 _ _ rfl w.heap.size (zGf ac nc capc ah nh caph af nf capf) rfl rfl 39 _ HQ.out (by kernel_rfl) rfl (by simp [Value.oneCell']) ?_
 refine hK.out _ _ ?jd ?je
 case jd => (try dsimp only); first | exact SA.out | exact SB.out | exact SC.out
 clear hK K hHeld
 intro hHeld
 try simp only [Act.put]
 refine tH 6 ?jf rfl rfl ?jg ?jh
 case jg => intro w hSw; (try dsimp only at hSw); go_simp; try with_reducible rfl
 try simp only [Act.put, sq1, sq2, sq3]
 refine eH ?_
 refine NoPanic.normal ?_
 generalize WA.drew.setRow w.heap.size (zGf ac nc capc ah nh caph af nf capf) = WZ at *
 go_wp2_with fail
 refine bodyPost_ret (zC6 rfl _ _ w.heap.size 39 _ (0, 0) _ rfl HZA.out.1 Tryz.underlying39 rfl (by kernel_rfl)) rfl ?_
 have HS9 : Hid (∀ T, T ≠ 39 → Same T wn WZ) := fun T hT => (Same.of_below HBX.out).trans (HZA.out.2.1 T hT)
 have HA9 : Hid (∀ T, Same T wd WA) := fun T => Same.of_below HAD.out
 have HL9 := HLI.out.wk (Nat.le_trans (Nat.le_of_lt (Array.getElem?_eq_some_iff.1 HQ1.out).1) (Nat.le_refl _))
 refine zGn hpr HBD.out HB.out (Nat.le_of_lt hpm) HM.out HK.out HS9.out ?_ ?_ hvp
 · exact zIw (Kq.of_below HBX.out (Nat.le_of_lt (Array.getElem?_eq_some_iff.1 HQ1.out).1)) HZA.out
 · exact HL9.same ((HA9.out _).trans (HZA.out.2.1 _ (by decide))) ((HA9.out _).trans (HZA.out.2.1 _ (by decide))) ((HA9.out _).trans (HZA.out.2.1 _ (by decide))) ((HA9.out _).trans (HZA.out.2.1 _ (by decide)))
end Go.Proofs.YtpehimfnkmepnaaGreat.M
