import Derived.Test.YtpehimfnkmepnaaGreatBx24
set_option maxRecDepth 8000
set_option maxHeartbeats 40000000
namespace Go.Proofs.YtpehimfnkmepnaaGreat.M
open Go.RowKit
def sThr : Obj := .cells #[.string ⟨#[76, 84, 104, 114, 111, 119, 97, 98, 108, 101, 59]⟩] 9 (0, 0)
def FIs (at_ : Int) (lc : Value) (b : Bool) (w : World) (y : FM) : Prop := y.at_ = at_ ∧ y.lc = lc ∧ if b then ∃ g, y.st = .slice (some ⟨g, 0, none⟩) 1 1 ∧ w.heap[g]? = some sThr else y.st = .slice none 0 0
def zRi (B pr : Nat) (fs : List FM) (at_ : Int) (lc : Value) (b : Bool) (w : World) (e : Ending) (w' : World) : Prop := ∃ v' fs', e = .returned v' ∧ w'.ownsRow B 67 3 v' fs'.length (zCp fs') ∧ ((fs' = fs ∧ ∃ x, fs[fs.length - 1]? = some x ∧ x.at_ = at_) ∨ (∃ y, fs' = fs ++ [y] ∧ FIs at_ lc b w' y ∧ ∀ x, fs[fs.length - 1]? = some x → x.at_ ≠ at_)) ∧ Kq B pr w w' ∧ ∀ T, T ≠ 67 → Same T w w'
theorem zAa {B k o : Nat} {w W : World} {u : Value} (h : Below B w W) (hk : B ≤ k) : Below B w (W.setCell ⟨k, o, none⟩ u) :=
 ⟨h.os, h.tape, h.output, by have := h.size; simpa using this, fun i hi => by rw [Below.heap_setCell _ _ _ _ (by show i ≠ k; omega)]; exact h.block i hi⟩
theorem zFz {B pr : Nat} {v v1 : Value} {fs : List FM} {y : FM} {w w0 w1 : World} {e : Ending} {at_ : Int} {lc : Value} {b : Bool} (hown : w.ownsRow B 67 3 v fs.length (zCp fs)) (hB : B ≤ w.heap.size) (hb : Below w.heap.size w w0)
 (ho : w1.ownsRow B 67 3 v1 (fs.length + 1) (zCp fs ++ frow y)) (hg : (w0.alloc (.cells (frow y).toArray 67)).grownBy w1 v.ownBlock) (he : e = .returned v1) (hF : FIs at_ lc b w1 y) (hl : ∀ x, fs[fs.length - 1]? = some x → x.at_ ≠ at_) : zRi B pr fs at_ lc b w e w1 := by
 have hz := hb.size
 have hb2 : Below w.heap.size w (w0.alloc (.cells (frow y).toArray 67)) := hb.alloc hz _
 have own2 := zA3 hown (Same.of_below (T := 67) hb2)
 refine ⟨v1, fs ++ [y], he, ?_, .inr ⟨y, rfl, hF, hl⟩, ?_, fun T hT => (Same.of_below hb2).trans (Same.of_grown own2 hg hT)⟩
 · rw [zL8, List.length_append]
   simpa [zCp] using ho
 · exact (Kq.of_below hb2 hB).grown hg (by simp; omega) (fun k e => (own2.lt k e).1)
theorem zK3 {B pr : Nat} {v : Value} {fs : List FM} {w w0 : World} {e : Ending} {at_ : Int} {lc : Value} {b : Bool} (hown : w.ownsRow B 67 3 v fs.length (zCp fs)) (hB : B ≤ w.heap.size) (hb : Below w.heap.size w w0) (he : e = .returned v) (hl : ∃ x, fs[fs.length - 1]? = some x ∧ x.at_ = at_) : zRi B pr fs at_ lc b w e w0 :=
 ⟨v, fs, he, zA3 hown (Same.of_below hb), .inl ⟨rfl, hl⟩, Kq.of_below hb hB, fun _ _ => Same.of_below hb⟩
theorem FIs.no {at_ : Int} {lc : Value} {w : World} {h1 : lc.oneCell' = true} {h2 : (Value.slice none 0 0).oneCell' = true} : FIs at_ lc false w ⟨at_, lc, .slice none 0 0, h1, h2⟩ := ⟨rfl, rfl, by simp⟩
theorem FIs.yes {at_ : Int} {lc : Value} {w : World} {g : Nat} {h1 : lc.oneCell' = true} {h2 : (Value.slice (some ⟨g, 0, none⟩) 1 1).oneCell' = true} (h : w.heap[g]? = some sThr) : FIs at_ lc true w ⟨at_, lc, .slice (some ⟨g, 0, none⟩) 1 1, h1, h2⟩ := ⟨rfl, rfl, by rw [if_pos rfl]; exact ⟨g, rfl, h⟩⟩
theorem stThr {B : Nat} {w w1 : World} {v : Value} {m : Nat} {xs : List Value} {al : Option Addr} {nl cl : Nat} {at_ : Int} {o : Obj} (hown : w.ownsRow B 67 3 v m xs)
 (hg : ((((w.alloc (.cells #[.int .i64 at_, .slice al nl cl, .slice (some ⟨w.heap.size + 1, 0, none⟩) 1 1] 67)).alloc (.cells #[.string ⟨#[76, 84, 104, 114, 111, 119, 97, 98, 108, 101, 59]⟩] 9))).alloc o).grownBy w1 v.ownBlock) : w1.heap[w.heap.size + 1]? = some sThr := by
 rw [hg.block (w.heap.size + 1) (by simp) ?_, (zA2 _ _).block _ (by simp)]
 · have := heap_alloc_new (w.alloc (.cells #[.int .i64 at_, .slice al nl cl, .slice (some ⟨w.heap.size + 1, 0, none⟩) 1 1] 67)) (.cells #[.string ⟨#[76, 84, 104, 114, 111, 119, 97, 98, 108, 101, 59]⟩] 9)
   simpa [sThr] using this
 · intro e
   have := (hown.lt _ e.symm).2
   omega
theorem zS7 (B pr : Nat) (v : Value) (fs : List FM) (at_ : Int) (al : Option Addr) (nl cl : Nat) (b : Bool) (w : World) (hown : w.ownsRow B 67 3 v fs.length (zCp fs)) (hn : fs.length ≤ 100000) (hB : B ≤ w.heap.size) :
 Calls Tryz.prog 144 #[v, .int .i64 at_, .slice al nl cl, .bool b] w fun e w' => zRi B pr fs at_ (.slice al nl cl) b w e w' := by
 obtain ⟨ao, cap, el⟩ := zA4 hown
 subst el
 have HO := zA0 hown
 clear hown
 have hlen : (fs.length : Int) ≤ 100000 := by omega
 have HB1 := zA0 (zA2 w (.cells #[.int .i64 at_, .slice al nl cl, .slice none 0 0] 67))
 have HB2 := zA0 ((zA2 w (.cells #[.int .i64 at_, .slice al nl cl, .slice (some ⟨w.heap.size + 1, 0, none⟩) 1 1] 67)).alloc (by simp) (.cells #[.string ⟨#[76, 84, 104, 114, 111, 119, 97, 98, 108, 101, 59]⟩] 9))
 by_cases h0 : (0 : Int) < (fs.length : Int)
 · obtain ⟨x, hx⟩ : ∃ x, fs[fs.length - 1]? = some x := ⟨fs[fs.length - 1]'(by omega), List.getElem?_eq_getElem (by omega)⟩
   obtain ⟨g, cap', ev, hgl, cx⟩ := zQg HO.out hx
   cases ev
   have HX := zA0 hx
   clear hx
   have hne : g ≠ w.heap.size := by omega
   have e3 : ((fs.length : Int) - 1).toNat * 3 = (fs.length - 1) * 3 := by omega
   by_cases he : x.at_ = at_
   all_goals have HAT := zA0 he
   · cases b
     · go_enter Tryz.func144, Tryz.ntmps144
       go_wp2
       go_ret
       exact zK3 HO.out hB HB1.out rfl ⟨x, HX.out, HAT.out⟩
     · go_enter Tryz.func144, Tryz.ntmps144
       go_wp2
       go_ret
       exact zK3 HO.out hB HB2.out rfl ⟨x, HX.out, HAT.out⟩
   · have HL : Hid (∀ y, fs[fs.length - 1]? = some y → y.at_ ≠ at_) := fun y hy => by rw [HX.out] at hy; cases hy; exact HAT.out
     cases b
     · go_enter Tryz.func144, Tryz.ntmps144
       go_wp2_with (at_builtin; refine zEf rfl _ _ rfl B (.slice (some ⟨g, 0, none⟩) fs.length cap) _ _ ⟨at_, .slice al nl cl, .slice none 0 0, rfl, rfl⟩ rfl (zA3 HO.out (Same.of_below HB1.out)) (by rw [show (w.alloc (.cells #[.int .i64 at_, .slice al nl cl, .slice none 0 0] 67)).heap.size = w.heap.size + 1 from by simp]; rfl) (by omega) (by simp; omega) ?_; intro v1 w1 ho1 hg1; have HF := zA0 (zFz (pr := pr) (at_ := at_) (lc := .slice al nl cl) (b := false) HO.out hB HB1.out ho1 hg1 rfl FIs.no HL.out); clear ho1 hg1)
       go_ret
       exact HF.out
     · go_enter Tryz.func144, Tryz.ntmps144
       go_wp2_with (at_builtin; refine zEf rfl _ _ rfl B (.slice (some ⟨g, 0, none⟩) fs.length cap) _ _ ⟨at_, .slice al nl cl, .slice (some ⟨w.heap.size + 1, 0, none⟩) 1 1, rfl, rfl⟩ rfl (zA3 HO.out (Same.of_below HB2.out)) (by rw [show ((w.alloc (.cells #[.int .i64 at_, .slice al nl cl, .slice (some ⟨w.heap.size + 1, 0, none⟩) 1 1] 67)).alloc (.cells #[.string ⟨#[76, 84, 104, 114, 111, 119, 97, 98, 108, 101, 59]⟩] 9)).heap.size = w.heap.size + 1 + 1 from by simp]; rfl) (by omega) (by simp; omega) ?_; intro v1 w1 ho1 hg1; have HF := zA0 (zFz (pr := pr) (at_ := at_) (lc := .slice al nl cl) (b := true) HO.out hB HB2.out ho1 hg1 rfl (FIs.yes (stThr HO.out hg1)) HL.out); clear ho1 hg1)
       go_ret
       exact HF.out
 · have HL : Hid (∀ y, fs[fs.length - 1]? = some y → y.at_ ≠ at_) := fun y hy => by have := (List.getElem?_eq_some_iff.1 hy).1; omega
   cases b
   · go_enter Tryz.func144, Tryz.ntmps144
     go_wp2_with (at_builtin; refine zEf rfl _ _ rfl B (.slice ao fs.length cap) _ _ ⟨at_, .slice al nl cl, .slice none 0 0, rfl, rfl⟩ rfl (zA3 HO.out (Same.of_below HB1.out)) (by rw [show (w.alloc (.cells #[.int .i64 at_, .slice al nl cl, .slice none 0 0] 67)).heap.size = w.heap.size + 1 from by simp]; rfl) (by omega) (by simp; omega) ?_; intro v1 w1 ho1 hg1; have HF := zA0 (zFz (pr := pr) (at_ := at_) (lc := .slice al nl cl) (b := false) HO.out hB HB1.out ho1 hg1 rfl FIs.no HL.out); clear ho1 hg1)
     go_ret
     exact HF.out
   · go_enter Tryz.func144, Tryz.ntmps144
     go_wp2_with (at_builtin; refine zEf rfl _ _ rfl B (.slice ao fs.length cap) _ _ ⟨at_, .slice al nl cl, .slice (some ⟨w.heap.size + 1, 0, none⟩) 1 1, rfl, rfl⟩ rfl (zA3 HO.out (Same.of_below HB2.out)) (by rw [show ((w.alloc (.cells #[.int .i64 at_, .slice al nl cl, .slice (some ⟨w.heap.size + 1, 0, none⟩) 1 1] 67)).alloc (.cells #[.string ⟨#[76, 84, 104, 114, 111, 119, 97, 98, 108, 101, 59]⟩] 9)).heap.size = w.heap.size + 1 + 1 from by simp]; rfl) (by omega) (by simp; omega) ?_; intro v1 w1 ho1 hg1; have HF := zA0 (zFz (pr := pr) (at_ := at_) (lc := .slice al nl cl) (b := true) HO.out hB HB2.out ho1 hg1 rfl (FIs.yes (stThr HO.out hg1)) HL.out); clear ho1 hg1)
     go_ret
     exact HF.out
structure COk (c : CD) : Prop where
 ok : P3.CD.Ok c
 sm : P3.CD.Small c
theorem zVs (l : List CD) (c : CD) : (P3.addZ l c).1.length ≤ l.length + 1 := by
 unfold P3.addZ
 split
 · split
   · simp
   · split <;> simp
 · simp
theorem add_ok {l : List CD} {c : CD} (h : ∀ x ∈ l, P3.CD.Ok x) (hc : P3.CD.Ok c) : ∀ x ∈ (P3.addZ l c).1, P3.CD.Ok x := by
 unfold P3.addZ
 split
 · split
   · exact h
   · split
     · intro x hx; simp at hx
     · intro x hx
       rcases List.mem_append.1 hx with hx | hx
       · exact h x hx
       · simp at hx; subst hx; exact hc
 · intro x hx; simp at hx
theorem zQs (B : Nat) (v : Value) (l : List CD) (c : CD) (w : World) (ho : w.ownsRow B 112 5 v l.length (zAu l)) (hl : l.length ≤ 1000000) (hc : COk c) (hs : ∀ x ∈ l, P3.CD.Ok x) :
 Calls Tryz.prog 165 #[v, P3.CD.val c] w fun e w' => Below w.heap.size w w' ∧ ∃ v' y, e = .returned (.tuple #[v', .int .i64 (P3.addZ l c).2.1, .int .i64 y]) ∧ w'.ownsRow w.heap.size 112 5 v' (P3.addZ l c).1.length (zAu (P3.addZ l c).1) := by
 refine (P3.zIc v l c w (P3.zEh.of_own ho hs) hc.sm (by omega)).mono fun e w' ⟨hb, v', he, ho'⟩ => ⟨hb, v', _, he, ho'⟩
theorem zIp {w : World} {B B' n s : Nat} {T : TypeId} {v : Value} {xs : List Value} (h : w.ownsRow B T s v n xs) (hB : B' ≤ B) : w.ownsRow B' T s v n xs := by
 refine ⟨h.1, ?_⟩
 rcases h.2 with x | ⟨g, cap, cur, e, hb, r⟩
 · exact .inl x
 · exact .inr ⟨g, cap, cur, e, by omega, r⟩
theorem MkP.setP {B pr pm : Nat} {s : MS} {w : World} {v : Value} {l : List CD} (h : MkP B pr pm s w) (ho : w.ownsRow 0 112 5 v l.length (zAu l)) : MkP B pr pm { s with vp := v, pool := l } (w.setCell ⟨pm, 1, none⟩ v) := by
 have S : ∀ T, T ≠ 144 → Same T w (w.setCell ⟨pm, 1, none⟩ v) := fun T hT => Same.of_set h.blk hT
 refine ⟨by rw [zBg h.blk]; rfl, S 104 (by decide) _ _ h.rec_, h.rl.kq ((Kq.refl B pr w).set (.inl h.hpm)), zA3 ho (S 112 (by decide)), zA3 h.l (S 181 (by decide)), zA3 h.h (S 190 (by decide)), zA3 h.t (S 3 (by decide)), h.hpm, h.hpr, h.at_le⟩
theorem zEe (B pr pm n d : Nat) (pl : Bool) (σ : SG) (c : CD) (w : World) (h : Mk B pr pm n d pl σ w) (hn : n ≤ 900000) (hc : COk c) :
 Calls Tryz.prog 138 #[.pointer (some ⟨pm, 0, none⟩), P3.CD.val c] w fun e w' => e = .returned (.int .i64 (σ.ix c)) ∧ Mk B pr pm (n + 1) d pl (σ.add c) w' ∧ Kq B pr w w' := by
 obtain ⟨s, HP0, HB, hsg⟩ := h
 have HSG := zA0 hsg
 have HIX : Hid (σ.ix c = (P3.addZ s.pool c).2.1) := by show _ = _; rw [← hsg]; rfl
 clear hsg
 generalize σ.ix c = IX at *
 have b0 := zA2 w (.cells #[.int .i64 c.kind, .int .i32 c.n, .string c.cls, .string c.nm, .string c.dsc] 112)
 have hx := heap_alloc_new w (.cells #[.int .i64 c.kind, .int .i32 c.n, .string c.cls, .string c.nm, .string c.dsc] 112)
 have HP := HP0.below b0
 have K0 := Kq.of_below (pr := pr) b0 HP0.lt.2
 have hpn := HB.pn
 have hlt0 := HP0.lt
 clear HP0 b0
 generalize hW : w.alloc (.cells #[.int .i64 c.kind, .int .i32 c.n, .string c.cls, .string c.nm, .string c.dsc] 112) = W at *
 have HW := zA0 hW
 clear hW
 obtain ⟨-, c1, -, -, -, -, -⟩ := zFd HP.blk
 obtain ⟨aop, capp, ep⟩ := zA4 HP.p
 have GA := zQs 0 s.vp s.pool c W.drew (zA3 HP.p (Same.refl _ _)) (by omega) hc HB.small
 rw [← HIX.out] at GA
 rw [ep] at c1 GA
 unfold P3.CD.val at GA ⊢
 have HGA := zA0 GA
 have d0 := zA1 hx 0 rfl
 have d1 := zA1 hx 1 rfl
 have d2 := zA1 hx 2 rfl
 have d3 := zA1 hx 3 rfl
 have d4 := zA1 hx 4 rfl
 have hS2 : Hid (W.drew.cell? ⟨pm, 1, none⟩ = some (.slice aop s.pool.length capp) ∧ W.drew.cell? ⟨w.heap.size, 0, none⟩ = some (.int .i64 c.kind) ∧ W.drew.cell? ⟨w.heap.size, 1, none⟩ = some (.int .i32 c.n) ∧ W.drew.cell? ⟨w.heap.size, 2, none⟩ = some (.string c.cls) ∧ W.drew.cell? ⟨w.heap.size, 3, none⟩ = some (.string c.nm) ∧ W.drew.cell? ⟨w.heap.size, 4, none⟩ = some (.string c.dsc)) := ⟨c1, d0, d1, d2, d3, d4⟩
 have hS3 : Hid (∀ W3, Below W.drew.heap.size W.drew W3 → (W3.cell? ⟨pm, 1, none⟩ = some (.slice aop s.pool.length capp) ∧ W3.cell? ⟨w.heap.size, 0, none⟩ = some (.int .i64 c.kind) ∧ W3.cell? ⟨w.heap.size, 1, none⟩ = some (.int .i32 c.n) ∧ W3.cell? ⟨w.heap.size, 2, none⟩ = some (.string c.cls) ∧ W3.cell? ⟨w.heap.size, 3, none⟩ = some (.string c.nm) ∧ W3.cell? ⟨w.heap.size, 4, none⟩ = some (.string c.dsc))) := by
  intro W3 hb
  exact ⟨cell_later hb c1, cell_later hb d0, cell_later hb d1, cell_later hb d2, cell_later hb d3, cell_later hb d4⟩
 clear c1 d0 d1 d2 d3 d4 GA hx
 go_enter Tryz.func138, Tryz.ntmps138
 go_wp2_with fail
 rw [HW.out]
 go_region_held3 (fun W3 => W3.cell? ⟨pm, 1, none⟩ = some (.slice aop s.pool.length capp) ∧ W3.cell? ⟨w.heap.size, 0, none⟩ = some (.int .i64 c.kind) ∧ W3.cell? ⟨w.heap.size, 1, none⟩ = some (.int .i32 c.n) ∧ W3.cell? ⟨w.heap.size, 2, none⟩ = some (.string c.cls) ∧ W3.cell? ⟨w.heap.size, 3, none⟩ = some (.string c.nm) ∧ W3.cell? ⟨w.heap.size, 4, none⟩ = some (.string c.dsc)) (first | exact hS2.out | exact hS3.out _ (by assumption))
  (first
   | (go_at_call 165; refine HGA.out.mono ?_; rintro e w2 ⟨b2, v2, y2, rfl, o2⟩; obtain ⟨ao2, cap2, rfl⟩ := zA4 o2))
 have HP2 := (HP.drew 1).below b2
 obtain ⟨-, q1, -, -, -, -, -⟩ := zFd HP2.blk
 rw [ep] at q1
 have qf := zAb HP2.blk
 have hz : B ≤ W.drew.heap.size := HP.lt.2
 have HP3 := HP2.setP (zIp o2 (Nat.zero_le _))
 have K3 := ((K0.drew 1).trans (Kq.of_below b2 hz)).set (k := pm) (o := 1) (u := .slice ao2 (P3.addZ s.pool c).1.length cap2) (.inl HP.hpm)
 go_wp2
 go_ret
 refine ⟨rfl, ⟨_, HP3, ?_⟩, K3⟩
 have hal := zVs s.pool c
 refine ⟨⟨HB.dep, HB.pln, by have := HB.lb; simp only; omega, by have := HB.ln; simp only; omega, by simp only; omega, by have := HB.hn; simp only; omega, by have := HB.tn; simp only; omega, by have := HB.l0; simp only; omega, HB.l1, add_ok HB.small hc.ok⟩, ?_⟩
 rw [← HSG.out]
 rfl
theorem zEw {pr : Nat} {w w' : World} {o : Obj} (ho : zTa pr (w.alloc o) w') (hpr : pr < w.heap.size) : w'.heap[w.heap.size]? = some o :=
 (ho _ (by omega)).trans (heap_alloc_new w o)
theorem zKi {w : World} {g x : Nat} {l : List Int} {T : TypeId} {k : IntKind} (h : w.heap[g]? = some (.cells (l.map (Value.int k)).toArray T (0, 0))) (hx : x < l.length) : ∃ v : Int, w.cell? ⟨g, x, none⟩ = some (.int k v) ∧ v ∈ l :=
 ⟨l[x], zA1 h x (by simp [hx]), List.getElem_mem hx⟩
theorem zJ1 {w : World} {g x : Nat} {l : List ByteArray} {T : TypeId} (h : w.heap[g]? = some (.cells (l.map Value.string).toArray T (0, 0))) (hx : x < l.length) : ∃ v : ByteArray, w.cell? ⟨g, x, none⟩ = some (.string v) ∧ v ∈ l :=
 ⟨l[x], zA1 h x (by simp [hx]), List.getElem_mem hx⟩
def cInt (n : Int) : CD := ⟨3, n, ⟨#[]⟩, ⟨#[]⟩, ⟨#[]⟩⟩
def cFld (a b c : ByteArray) : CD := ⟨9, 0, a, b, c⟩
def cMet (a b c : ByteArray) : CD := ⟨10, 0, a, b, c⟩
def cCls (a : ByteArray) : CD := ⟨7, 0, a, ⟨#[]⟩, ⟨#[]⟩⟩
theorem cok3 {k n : Int} {a b c : ByteArray} (h0 : -2147483648 ≤ n) (h1 : n ≤ 2147483647) (z1 : a.size ≤ 1000000) (z2 : b.size ≤ 1000000) (z3 : c.size ≤ 1000000) : COk ⟨k, n, a, b, c⟩ :=
 ⟨⟨⟨by show a.size ≤ _; omega, by show b.size ≤ _; omega, by show c.size ≤ _; omega⟩, h0, h1⟩, ⟨by show a.size ≤ _; omega, by show b.size ≤ _; omega, by show c.size ≤ _; omega⟩⟩
theorem sz0 : (⟨#[]⟩ : ByteArray).size ≤ 1000000 := (show (0 : Nat) ≤ 1000000 by omega)
theorem zA8 (B pr pm n d : Nat) (pl : Bool) (σ : SG) (K : Int) (w : World) (h : Mk B pr pm n d pl σ w) (h0 : 0 < K) (h1 : K ≤ 100000) :
 Calls Tryz.prog 55 #[.pointer (some ⟨pr, 0, none⟩), .int .i64 K] w fun e w' => (∃ x : Nat, (x : Int) < K ∧ e = .returned (.int .i64 (x : Int))) ∧ Mk B pr pm n d pl σ w' ∧ Kq B pr w w' ∧ zTa pr w w' := by
 obtain ⟨k, rfl⟩ := Int.eq_ofNat_of_zero_le (Int.le_of_lt h0)
 refine (zT3 B pr pm n d pl σ k w h (by omega) (by omega)).mono fun e w' ⟨⟨x, hx, he⟩, h2⟩ => ⟨⟨x, by omega, he⟩, h2⟩
theorem Mk.pr_lt {B pr pm n d : Nat} {pl : Bool} {σ : SG} {w : World} (h : Mk B pr pm n d pl σ w) : pr < w.heap.size := by
 obtain ⟨s, hp, -⟩ := h
 have := hp.lt
 have := hp.hpr
 omega
theorem Mk.pm_lt {B pr pm n d : Nat} {pl : Bool} {σ : SG} {w : World} (h : Mk B pr pm n d pl σ w) : pm < w.heap.size := by
 obtain ⟨s, hp, -⟩ := h
 exact hp.lt.1
theorem Mk.read {B pr pm n d : Nat} {pl : Bool} {σ : SG} {w : World} (h : Mk B pr pm n d pl σ w) : w.cell? ⟨pm, 0, none⟩ = some (.pointer (some ⟨pr, 0, none⟩)) ∧ w.cell? ⟨pm, 3, none⟩ = some (.int .i64 (σ.labels : Int)) ∧ w.cell? ⟨pm, 4, none⟩ = some (.bool pl) ∧ w.cell? ⟨pm, 5, none⟩ = some (.int .i64 σ.left) ∧ w.cell? ⟨pm, 6, none⟩ = some (.int .i64 (d : Int)) ∧ σ.labels ≤ n ∧ σ.left ≤ 110 := by
 obtain ⟨s, hp, hb, rfl⟩ := h
 obtain ⟨c0, -, -, c3, c4, c5, c6⟩ := zFd hp.blk
 rw [hb.pln] at c4
 rw [hb.dep] at c6
 exact ⟨c0, c3, c4, c5, c6, hb.lb, hb.l1⟩
theorem Mk.read2 {B pr pm n d : Nat} {pl : Bool} {σ : SG} {w : World} (h : Mk B pr pm n d pl σ w) : w.cell? ⟨pm, 0, none⟩ = some (.pointer (some ⟨pr, 0, none⟩)) ∧ w.cell? ⟨pm, 3, none⟩ = some (.int .i64 (σ.labels : Int)) ∧ w.cell? ⟨pm, 4, none⟩ = some (.bool pl) ∧ w.cell? ⟨pm, 5, none⟩ = some (.int .i64 σ.left) ∧ w.cell? ⟨pm, 6, none⟩ = some (.int .i64 (d : Int)) ∧ σ.labels ≤ n ∧ σ.left ≤ 110 ∧ pr < w.heap.size ∧ pm < w.heap.size := by
 obtain ⟨c0, c3, c4, c5, c6, hL, hl⟩ := h.read
 exact ⟨c0, c3, c4, c5, c6, hL, hl, h.pr_lt, h.pm_lt⟩
theorem zJx (B pr pm n d : Nat) (pl : Bool) (σ : SG) (N : Int) (w : World) (h : Mk B pr pm n d pl σ w) (hn : n ≤ 900000) (h0 : -2147483648 ≤ N) (h1 : N ≤ 2147483647) :
 Calls Tryz.prog 138 #[.pointer (some ⟨pm, 0, none⟩), .agg #[.int .i64 3, .int .i32 N, .string ⟨#[]⟩, .string ⟨#[]⟩, .string ⟨#[]⟩]] w fun e w' => e = .returned (.int .i64 (σ.ix (cInt N))) ∧ Mk B pr pm (n + 1) d pl (σ.add (cInt N)) w' ∧ Kq B pr w w' :=
 zEe B pr pm n d pl σ (cInt N) w h hn (cok3 h0 h1 sz0 sz0 sz0)
theorem zB3 (B pr pm n d : Nat) (pl : Bool) (σ : SG) (s1 s2 s3 : ByteArray) (w : World) (h : Mk B pr pm n d pl σ w) (hn : n ≤ 900000) (z1 : s1.size ≤ 1000000) (z2 : s2.size ≤ 1000000) (z3 : s3.size ≤ 1000000) :
 Calls Tryz.prog 140 #[.pointer (some ⟨pm, 0, none⟩), .string s1, .string s2, .string s3] w fun e w' => e = .returned (.int .i64 (σ.ix (cFld s1 s2 s3))) ∧ Mk B pr pm (n + 1) d pl (σ.add (cFld s1 s2 s3)) w' ∧ Kq B pr w w' := by
 have G2 : Hid (Calls Tryz.prog 138 #[.pointer (some ⟨pm, 0, none⟩), .agg #[.int .i64 9, .int .i32 0, .string s1, .string s2, .string s3]] w fun e w' => e = .returned (.int .i64 (σ.ix (cFld s1 s2 s3))) ∧ Mk B pr pm (n + 1) d pl (σ.add (cFld s1 s2 s3)) w' ∧ Kq B pr w w') := zEe B pr pm n d pl σ (cFld s1 s2 s3) w h hn (cok3 (by decide) (by decide) z1 z2 z3)
 go_enter Tryz.func140, Tryz.ntmps140
 go_wp2_with fail
 refine G2.out.mono ?_
 rintro e w1 ⟨rfl, hm, hk⟩
 go_wp2
 go_ret
 exact ⟨rfl, hm, hk⟩
theorem zAk (B pr pm n d : Nat) (pl : Bool) (σ : SG) (s1 s2 s3 : ByteArray) (w : World) (h : Mk B pr pm n d pl σ w) (hn : n ≤ 900000) (z1 : s1.size ≤ 1000000) (z2 : s2.size ≤ 1000000) (z3 : s3.size ≤ 1000000) :
 Calls Tryz.prog 141 #[.pointer (some ⟨pm, 0, none⟩), .string s1, .string s2, .string s3] w fun e w' => e = .returned (.int .i64 (σ.ix (cMet s1 s2 s3))) ∧ Mk B pr pm (n + 1) d pl (σ.add (cMet s1 s2 s3)) w' ∧ Kq B pr w w' := by
 have G2 : Hid (Calls Tryz.prog 138 #[.pointer (some ⟨pm, 0, none⟩), .agg #[.int .i64 10, .int .i32 0, .string s1, .string s2, .string s3]] w fun e w' => e = .returned (.int .i64 (σ.ix (cMet s1 s2 s3))) ∧ Mk B pr pm (n + 1) d pl (σ.add (cMet s1 s2 s3)) w' ∧ Kq B pr w w') := zEe B pr pm n d pl σ (cMet s1 s2 s3) w h hn (cok3 (by decide) (by decide) z1 z2 z3)
 go_enter Tryz.func141, Tryz.ntmps141
 go_wp2_with fail
 refine G2.out.mono ?_
 rintro e w1 ⟨rfl, hm, hk⟩
 go_wp2
 go_ret
 exact ⟨rfl, hm, hk⟩
theorem zBf (B pr pm n d : Nat) (pl : Bool) (σ : SG) (s1 : ByteArray) (w : World) (h : Mk B pr pm n d pl σ w) (hn : n ≤ 900000) (z1 : s1.size ≤ 1000000) :
 Calls Tryz.prog 142 #[.pointer (some ⟨pm, 0, none⟩), .string s1] w fun e w' => e = .returned (.int .i64 (σ.ix (cCls s1))) ∧ Mk B pr pm (n + 1) d pl (σ.add (cCls s1)) w' ∧ Kq B pr w w' := by
 have G2 : Hid (Calls Tryz.prog 138 #[.pointer (some ⟨pm, 0, none⟩), .agg #[.int .i64 7, .int .i32 0, .string s1, .string ⟨#[]⟩, .string ⟨#[]⟩]] w fun e w' => e = .returned (.int .i64 (σ.ix (cCls s1))) ∧ Mk B pr pm (n + 1) d pl (σ.add (cCls s1)) w' ∧ Kq B pr w w') := zEe B pr pm n d pl σ (cCls s1) w h hn (cok3 (by decide) (by decide) z1 sz0 sz0)
 go_enter Tryz.func142, Tryz.ntmps142
 go_wp2_with fail
 refine G2.out.mono ?_
 rintro e w1 ⟨rfl, hm, hk⟩
 go_wp2
 go_ret
 exact ⟨rfl, hm, hk⟩
def zBj : Bool → List Value
 | true => [.string ⟨#[73]⟩, .string ⟨#[73]⟩, .string ⟨#[73]⟩, .string ⟨#[73]⟩]
 | false => [.string ⟨#[73]⟩, .string ⟨#[73]⟩, .string ⟨#[73]⟩, .string ⟨#[73]⟩, .string ⟨#[76, 65, 59]⟩, .string ⟨#[76, 65, 59]⟩, .string ⟨#[91, 73]⟩, .string ⟨#[76, 84, 104, 114, 111, 119, 97, 98, 108, 101, 59]⟩, .string ⟨#[76, 84, 59]⟩, .string ⟨#[91, 76, 65, 59]⟩]
theorem Mk.noK {B pr pm n d : Nat} {pl : Bool} {σ : SG} {w : World} (h : Mk B pr pm n d pl σ w) : w.cell? ⟨pm, 9, none⟩ = some (.slice none 0 0) := by
 obtain ⟨s, HP, HB⟩ := h
 exact zA1 HP.blk 9 rfl
theorem zH7 (B pr pm n d : Nat) (pl : Bool) (σ : SG) (w : World) (h : Mk B pr pm n d pl σ w) :
 Calls Tryz.prog 136 #[.pointer (some ⟨pm, 0, none⟩)] w fun e w' => e = .returned (.slice (some ⟨w.heap.size, 0, none⟩) (zBj pl).length (zBj pl).length) ∧ w' = w.alloc (.cells (zBj pl).toArray 9) := by
 obtain ⟨c0, c3, c4, c5, c6, hL, hleft⟩ := h.read
 have c9 := h.noK
 clear h
 cases pl
 all_goals
  go_enter Tryz.func136, Tryz.ntmps136
  go_wp2
  go_ret
  exact ⟨rfl, rfl⟩
theorem MkP.putS {B pr pm : Nat} {s : MS} {w w1 : World} {o : Obj} {v1 : Value} {u : Value} {T : TypeId} {x : LN} (h : MkP B pr pm s w) (hg : (w.alloc o).grownBy w1 s.vl.ownBlock) (ho : w1.ownsRow B 181 6 v1 (s.ls.length + 1) (zFg s.ls ++ lrow x)) (h1 : T ≠ 181) (h2 : T ≠ 144) : Same T w ((w1.setCell ⟨pm, 2, none⟩ v1).setCell ⟨pm, 5, none⟩ u) := by
 have hA := h.below (zA2 w o)
 have hb := Same.of_grown hA.l hg (T := 144) (by decide) _ _ hA.blk
 have hp := (h.putL hg ho).2.1
 exact (((Same.of_below (zA2 w o)).trans (Same.of_grown hA.l hg h1)).trans (Same.of_set hb h2)).trans (Same.of_set hp.blk h2)
theorem zAs (B pr pm n d : Nat) (pl : Bool) (σ : SG) (op a b : Int) (w : World) (h : Mk B pr pm n d pl σ w) (hn : n ≤ 900000) :
 Calls Tryz.prog 98 #[.pointer (some ⟨pm, 0, none⟩), .int .i64 op, .int .i64 a, .int .i64 b] w fun e w' => e = .returned (.tuple #[]) ∧ Mk B pr pm (n + 1) d pl (σ.put op a b) w' ∧ Kq B pr w w' ∧ Same 9 w w' := by
 obtain ⟨s, HP, HB, hsg⟩ := h
 have HSG := zA0 hsg
 clear hsg
 obtain ⟨-, -, c2, -, -, c5, -⟩ := zFd HP.blk
 have f0 := zAb HP.blk
 have hz := HP.lt
 have hln := HB.ln
 have L0 := HB.l0
 have L1 := HB.l1
 have HPL := zA0 (fun v1 w1 hg ho => HP.putL (o := .cells (lrow ⟨0, op, a, b, -1, -1⟩).toArray 181) (v1 := v1) (w1 := w1) (x := ⟨0, op, a, b, -1, -1⟩) hg ho)
 have HPS := zA0 (fun v1 w1 u hg ho => HP.putS (T := 9) (u := u) (o := .cells (lrow ⟨0, op, a, b, -1, -1⟩).toArray 181) (v1 := v1) (w1 := w1) (x := ⟨0, op, a, b, -1, -1⟩) hg ho (by decide) (by decide))
 have hOl := HP.l
 obtain ⟨aol, capl, el⟩ := zA4 HP.l
 have HEL := zA0 el
 rw [el] at c2
 go_enter Tryz.func98, Tryz.ntmps98
 go_wp2_with (at_builtin; refine zD9 rfl _ _ rfl B (.slice aol s.ls.length capl) _ _ ⟨0, op, a, b, -1, -1⟩ rfl (by rw [← HEL.out]; exact hOl) rfl (by omega) (by omega) ?_; intro v1 w1 ho1 hg1; obtain ⟨hb1, HP1, K1⟩ := HPL.out v1 w1 (by rw [HEL.out]; exact hg1) ho1; have HS1 := zA0 (HPS.out v1 w1 (.int .i64 (s.left - 1)) (by rw [HEL.out]; exact hg1) ho1); obtain ⟨-, -, q2, -, -, q5, -⟩ := zFd hb1; have qf := zAb hb1; obtain ⟨ao1, cap1, rfl⟩ := zA4 ho1)
 go_end0
 refine ⟨rfl, ⟨_, HP1.set (s' := { s with vl := .slice ao1 (s.ls.length + 1) cap1, ls := s.ls ++ [⟨0, op, a, b, -1, -1⟩], left := s.left - 1 }) 5 (.int .i64 (s.left - 1)) rfl rfl rfl rfl rfl rfl rfl rfl rfl rfl rfl rfl, ?_⟩, K1.set (.inl HP.hpm), HS1.out⟩
 refine ⟨⟨HB.dep, HB.pln, by have := HB.lb; simp only; omega, by simp; omega, by have := HB.pn; simp only; omega, by have := HB.hn; simp only; omega, by have := HB.tn; simp only; omega, by simp only; omega, by simp only; omega, HB.small⟩, ?_⟩
 rw [← HSG.out]
 rfl
end Go.Proofs.YtpehimfnkmepnaaGreat.M
namespace Go.Proofs.YtpehimfnkmepnaaGreat
def zAq (l : List Int) : Prop := ∀ x ∈ l, 0 ≤ x ∧ x ≤ 255
structure IN where
 pl : Int
 op : Int
 a : Int
 b : Int
def kd (op : Int) : Nat :=
 if op = 132 then 7 else if (153 ≤ op ∧ op ≤ 167) ∨ op = 198 ∨ op = 199 then 6 else if op = 17 then 5
 else if (178 ≤ op ∧ op ≤ 182) ∨ op = 184 ∨ op = 187 ∨ op = 189 ∨ op = 192 ∨ op = 193 then 4
 else if op = 16 then 3 else if op = 18 ∨ op = 21 ∨ op = 25 ∨ op = 54 ∨ op = 58 ∨ op = 188 then 2
 else if (0 ≤ op ∧ op ≤ 8) ∨ op = 46 ∨ op = 50 ∨ op = 79 ∨ op = 83 ∨ op = 87 ∨ op = 89 ∨ op = 95 ∨ op = 96 ∨ op = 100 ∨ op = 104 ∨ op = 108 ∨ op = 112 ∨ op = 116 ∨ op = 120 ∨ op = 122 ∨ op = 124 ∨ op = 126 ∨ op = 128 ∨ op = 130 ∨ op = 172 ∨ op = 176 ∨ op = 177 ∨ op = 190 ∨ op = 191 ∨ op = 194 ∨ op = 195 then 1 else 0
def szK : Nat → Nat
 | 0 => 0 | 1 => 1 | 2 => 2 | 3 => 2 | _ => 3
def sz (op : Int) : Nat := szK (kd op)
theorem kd_le (op : Int) : kd op ≤ 7 := by
 unfold kd
 repeat' split
 all_goals omega
theorem zFs {op : Int} (h : kd op ≠ 0) : 0 ≤ op ∧ op ≤ 255 := by
 unfold kd at h
 repeat' split at h
 all_goals omega
theorem zMj (op : Int) : kd op = 6 ↔ (153 ≤ op ∧ op ≤ 167) ∨ op = 198 ∨ op = 199 := by
 unfold kd
 constructor
 · intro h
   repeat' split at h
   all_goals first | assumption | omega
 · intro h
   rw [if_neg (by omega), if_pos h]
theorem zVt (op : Int) : sz op ≤ 3 := by
 unfold sz szK
 split <;> omega
theorem zQx (op : Int) : sz op = 0 ↔ kd op = 0 := by
 unfold sz szK
 split <;> simp_all
def fits (i : IN) : Prop :=
 match kd i.op with
 | 7 => (0 ≤ i.a ∧ i.a ≤ 255) ∧ -128 ≤ i.b ∧ i.b ≤ 127
 | 6 => i.b = 0 ∧ -32768 ≤ i.a - i.pl ∧ i.a - i.pl ≤ 32767
 | 5 => i.b = 0 ∧ -32768 ≤ i.a ∧ i.a ≤ 32767
 | 4 => i.b = 0 ∧ 0 ≤ i.a ∧ i.a ≤ 65535
 | 3 => i.b = 0 ∧ -128 ≤ i.a ∧ i.a ≤ 127
 | 2 => i.b = 0 ∧ 0 ≤ i.a ∧ i.a ≤ 255
 | _ => i.a = 0 ∧ i.b = 0
def oneB (i : IN) : List Int :=
 match kd i.op with
 | 7 => [i.op, i.a % 256, i.b % 256]
 | 6 => [i.op, (i.a - i.pl) / 256 % 256, (i.a - i.pl) % 256]
 | 5 => [i.op, i.a / 256 % 256, i.a % 256]
 | 4 => [i.op, i.a / 256 % 256, i.a % 256]
 | 3 => [i.op, i.a % 256]
 | 2 => [i.op, i.a % 256]
 | _ => [i.op]
def s8 (x : Int) : Int := if 128 ≤ x then x - 256 else x
theorem zOd (op : Int) : kd op = 0 ∨ kd op = 1 ∨ kd op = 2 ∨ kd op = 3 ∨ kd op = 4 ∨ kd op = 5 ∨ kd op = 6 ∨ kd op = 7 := by have := kd_le op; omega
theorem zWb (i : IN) (h : kd i.op ≠ 0) : (oneB i).length = sz i.op := by
 unfold oneB sz
 rcases zOd i.op with e | e | e | e | e | e | e | e
 · exact absurd e h
 all_goals rw [e]; rfl
/-! Lists. -/
def zB4 (i : IN) : Bool :=
 match kd i.op with
 | 7 => decide ((0 ≤ i.a ∧ i.a ≤ 255) ∧ -128 ≤ i.b ∧ i.b ≤ 127)
 | 6 => decide (i.b = 0 ∧ -32768 ≤ i.a - i.pl ∧ i.a - i.pl ≤ 32767)
 | 5 => decide (i.b = 0 ∧ -32768 ≤ i.a ∧ i.a ≤ 32767)
 | 4 => decide (i.b = 0 ∧ 0 ≤ i.a ∧ i.a ≤ 65535)
 | 3 => decide (i.b = 0 ∧ -128 ≤ i.a ∧ i.a ≤ 127)
 | 2 => decide (i.b = 0 ∧ 0 ≤ i.a ∧ i.a ≤ 255)
 | _ => decide (i.a = 0 ∧ i.b = 0)
theorem zSe (i : IN) : zB4 i = true ↔ fits i := by
 unfold zB4 fits
 split <;> exact decide_eq_true_iff
def encL : List IN → List Int → List Int × Int
 | [], out => if 1024 < out.length then ([], 3) else (out, 0)
 | i :: l, out => if kd i.op = 0 then ([], 15) else if i.pl ≠ (out.length : Int) then ([], 16) else if zB4 i = false then ([], 1) else encL l (out ++ oneB i)
theorem zMo (i : IN) (h : kd i.op ≠ 0) : zAq (oneB i) := by
 have hop := zFs h
 intro x hx
 unfold oneB at hx
 split at hx <;> simp at hx <;> omega
end Go.Proofs.YtpehimfnkmepnaaGreat
