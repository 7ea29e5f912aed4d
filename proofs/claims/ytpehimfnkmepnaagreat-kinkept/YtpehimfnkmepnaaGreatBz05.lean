import Derived.Test.YtpehimfnkmepnaaGreatBz04
set_option maxRecDepth 8000
set_option maxHeartbeats 40000000
namespace Go.Proofs.YtpehimfnkmepnaaGreat.M
open Go.RowKit
theorem zRz {w : World} {B : Nat} {v : Value} {l : List Int} (h : w.ownsRow B 3 1 v l.length (zBi l)) {j : Nat} {x : Int} (hj : l[j]? = some x) :
 ∃ g cap, v = .slice (some ⟨g, 0, none⟩) l.length cap ∧ w.cell? ⟨g, j, none⟩ = some (.int .i64 x) := by
 have hlt := (List.getElem?_eq_some_iff.1 hj).1
 rcases h.2 with ⟨rfl, h0⟩ | ⟨g, cap, cur, rfl, _, hg, h1, h2, h3, h4⟩
 · rw [h0] at hlt; simp at hlt
 · refine ⟨g, cap, rfl, zA1 hg j ?_⟩
   rw [← Array.getElem?_toList]
   have e : (cur.toList.take (l.length * 1))[j]? = (zBi l)[j]? := by rw [h4]
   rw [List.getElem?_take, if_pos (by omega)] at e
   rw [e]
   simp [zBi, hj]
def isIn (l : List Int) (x : Int) : Bool := l.any (· == x)
theorem zO9 {l : List Int} {x y : Int} {k : Nat} (h : l[k]? = some y) (hn : y ≠ x) : isIn (l.drop k) x = isIn (l.drop (k + 1)) x := by
 obtain ⟨hk, e⟩ := List.getElem?_eq_some_iff.1 h
 subst e
 unfold isIn
 rw [List.drop_eq_getElem_cons hk, List.any_cons, beq_false_of_ne hn, Bool.false_or]
theorem zPs {l : List Int} {x : Int} {k : Nat} (h : l[k]? = some x) : isIn (l.drop k) x = true := by
 obtain ⟨hk, e⟩ := List.getElem?_eq_some_iff.1 h
 subst e
 unfold isIn
 rw [List.drop_eq_getElem_cons hk, List.any_cons, beq_self_eq_true, Bool.true_or]
theorem zN8 (B pr pm n d : Nat) (pl : Bool) (σ : SG) (lbl : Int) (w : World) (h : Mk B pr pm n d pl σ w) (hn : n ≤ 900000) :
 Calls Tryz.prog 145 #[.pointer (some ⟨pm, 0, none⟩), .int .i64 lbl] w fun e w' => e = .returned (.bool (isIn σ.ts lbl)) ∧ w' = w := by
 obtain ⟨s, HP, HB, hsg⟩ := h
 have HA0 : Hid (isIn (s.ts.drop 0) lbl = isIn σ.ts lbl) := by show _ = _; rw [← hsg]; rfl
 clear hsg
 generalize isIn σ.ts lbl = AN at *
 have c8 := zA1 HP.blk 8 (v := s.vt) rfl
 have htn := HB.tn
 have HO := zA0 HP.t
 obtain ⟨ao, cap, el⟩ := zA4 HP.t
 have HEL := zA0 el
 rw [el] at c8
 have hlen : (s.ts.length : Int) ≤ 900000 := by omega
 clear HP HB el
 go_enter Tryz.func145, Tryz.ntmps145
 go_wp2
 go_loopw [5] (fun i_ wr => ∃ j : Nat, i_ = .int .i64 (j : Int) ∧ j ≤ s.ts.length ∧ wr = w ∧ isIn (s.ts.drop j) lbl = AN) (fun i_ _ => s.ts.length - (intOf i_).toNat)
 case atStart =>
  exact ⟨0, by go_num, by omega, rfl, HA0.out⟩
 case round =>
  obtain ⟨j, rfl, hj, hww, hA⟩ := hrel
  cases hww
  have HA := zA0 hA
  clear hA HA0
  by_cases hlt : j < s.ts.length
  · have hlt' : (j : Int) < (s.ts.length : Int) := by omega
    obtain ⟨x, hx⟩ : ∃ x, s.ts[j]? = some x := ⟨s.ts[j], List.getElem?_eq_getElem hlt⟩
    obtain ⟨g, cap', ev, cx⟩ := zRz HO.out hx
    rw [HEL.out] at ev
    cases ev
    have HX := zA0 hx
    clear hx
    by_cases he : x = lbl
    · subst he
      go_wp2
      go_ret
      exact ⟨by rw [← HA.out, zPs HX.out]; rfl, rfl⟩
    · have HE := zA0 he
      go_wp2
      exact ⟨⟨j + 1, by go_num, by omega, by first | rfl | trivial, by rw [← zO9 HX.out HE.out]; exact HA.out⟩, by simp [intOf]; omega⟩
  · have hlt' : ¬ (j : Int) < (s.ts.length : Int) := by omega
    obtain rfl : j = s.ts.length := by omega
    have HA2 : Hid (false = AN) := by show _ = _; rw [← HA.out, List.drop_length]; rfl
    go_wp2
    go_ret
    exact ⟨by rw [← HA2.out]; rfl, rfl⟩
structure FM where
 at_ : Int
 lc : Value
 st : Value
 o1 : lc.oneCell' = true
 o2 : st.oneCell' = true
def frow (x : FM) : List Value := [.int .i64 x.at_, x.lc, x.st]
def zC9 (l : List FM) : List Value := l.flatMap frow
theorem zJb (a b : List FM) : zC9 (a ++ b) = zC9 a ++ zC9 b := by simp [zC9]
theorem zKa : ∀ (l : List FM) (j : Nat) (x : FM), l[j]? = some x → (zC9 l)[j * 3]? = some (.int .i64 x.at_)
 | [], _, _, h => by simp at h
 | y :: l, 0, x, h => by simp at h; subst h; simp [zC9, frow]
 | y :: l, j + 1, x, h => by
   have := zKa l j x (by simpa using h)
   rw [show (j + 1) * 3 = j * 3 + 3 from by omega]
   simpa [zC9, frow] using this
theorem zOf {w : World} {B : Nat} {v : Value} {l : List FM} (h : w.ownsRow B 67 3 v l.length (zC9 l)) {j : Nat} {x : FM} (hj : l[j]? = some x) :
 ∃ g cap, v = .slice (some ⟨g, 0, none⟩) l.length cap ∧ g < w.heap.size ∧ w.cell? ⟨g, j * 3, none⟩ = some (.int .i64 x.at_) := by
 have hlt := (List.getElem?_eq_some_iff.1 hj).1
 rcases h.2 with ⟨rfl, h0⟩ | ⟨g, cap, cur, rfl, _, hg, h1, h2, h3, h4⟩
 · rw [h0] at hlt; simp at hlt
 · refine ⟨g, cap, rfl, (Array.getElem?_eq_some_iff.1 hg).1, zA1 hg _ ?_⟩
   rw [← Array.getElem?_toList]
   have e : (cur.toList.take (l.length * 3))[j * 3]? = (zC9 l)[j * 3]? := by rw [h4]
   rw [List.getElem?_take, if_pos (by omega)] at e
   rw [e]
   exact zKa l j x hj
theorem Tryz.info67x : (Tryz.prog.info? 67).map (fun i => (i.zero, i.size, i.bytes)) = some (some (.agg #[.int .i64 0, .slice none 0 0, .slice none 0 0]), 3, 56) := by kernel_rfl
theorem zQw (x : FM) : ∀ u ∈ frow x, u.oneCell' = true := by
 intro u hu
 simp [frow] at hu
 rcases hu with rfl | rfl | rfl
 · rfl
 · exact x.o1
 · exact x.o2
theorem zDd {w : World} {ops : Array Oper} {rest : List Oper} {o : Oper} {a : Act} {Q : Exit → Act → World → Prop} (hgd : o.guard = none) (s x : Operand)
 (ho : o.op = .call { callee := .builtin .append, args := #[s, x], argTypes := #[37, 37] })
 (B : Nat) (v : Value) (n : Nat) (xs : List Value) (y : FM) (hs : a.eval s = v) (hown : w.ownsRow B 67 3 v n xs) (hx : a.eval x = .slice (some ⟨w.heap.size, 0, none⟩) 1 1)
 (hlen : n ≤ 1000000) (hB : B ≤ w.heap.size)
 (h : ∀ v' w', w'.ownsRow B 67 3 v' (n + 1) (xs ++ frow y) → (w.alloc (.cells (frow y).toArray 67)).grownBy w' v.ownBlock → wpList Tryz.prog ops Q rest (a.put o.dst v') w') :
 wpList Tryz.prog ops Q (o :: rest) a (w.alloc (.cells (frow y).toArray 67)) := by
 obtain ⟨i0, hi, hz0, hz1, hz2⟩ := info_parts Tryz.info67x
 refine wpList_plain hgd fun K hK => ?_
 have hown' : (w.alloc (.cells (frow y).toArray 67)).ownsRow B 67 3 v n xs := zA3 hown (Same.of_below (zA2 w _))
 obtain ⟨v', w', hr, h2, h3, _, h4⟩ := run_append_own_at (P := Tryz.prog) (w.alloc (.cells (frow y).toArray 67)) B 37 o.type 67 i0 _ 3 56 Tryz.underlying37 hi hz0 hz1 hz2 rfl (by decide) v n xs hown' ⟨w.heap.size, 0, none⟩ 1 1 (frow y) rfl
  (fun j u hj => by
   have e : (⟨w.heap.size, 0, none⟩ : Addr).add j = ⟨w.heap.size, j, none⟩ := by unfold Addr.add; split <;> simp_all
   rw [e]
   exact zA1 (heap_alloc_new w _) j (by simpa using hj)) (zQw y) (by unfold maxLen; omega) (by omega) (by simp; omega)
 unfold Oper.wp execOp
 simp only [ho, resolve, invoke, builtin, Sem.run_bind, Sem.run_pure, Result.andThen_ok, List.map_toArray, List.map_cons, List.map_nil, hs, hx, hr]
 exact hK _ _ (h v' w' h2 h3)
def sThr : Obj := .cells #[.string ⟨#[76, 84, 104, 114, 111, 119, 97, 98, 108, 101, 59]⟩] 9 (0, 0)
def FIs (at_ : Int) (lc : Value) (b : Bool) (w : World) (y : FM) : Prop := y.at_ = at_ ∧ y.lc = lc ∧ if b then ∃ g, y.st = .slice (some ⟨g, 0, none⟩) 1 1 ∧ w.heap[g]? = some sThr else y.st = .slice none 0 0
def zPd (B pr : Nat) (fs : List FM) (at_ : Int) (lc : Value) (b : Bool) (w : World) (e : Ending) (w' : World) : Prop := ∃ v' fs', e = .returned v' ∧ w'.ownsRow B 67 3 v' fs'.length (zC9 fs') ∧ ((fs' = fs ∧ ∃ x, fs[fs.length - 1]? = some x ∧ x.at_ = at_) ∨ (∃ y, fs' = fs ++ [y] ∧ FIs at_ lc b w' y ∧ ∀ x, fs[fs.length - 1]? = some x → x.at_ ≠ at_)) ∧ Kq B pr w w' ∧ ∀ T, T ≠ 67 → Same T w w'
theorem zAd {B k o : Nat} {w W : World} {u : Value} (h : Below B w W) (hk : B ≤ k) : Below B w (W.setCell ⟨k, o, none⟩ u) :=
 ⟨h.os, h.tape, h.output, by have := h.size; simpa using this, fun i hi => by rw [Below.heap_setCell _ _ _ _ (by show i ≠ k; omega)]; exact h.block i hi⟩
theorem zEo {B pr : Nat} {v v1 : Value} {fs : List FM} {y : FM} {w w0 w1 : World} {e : Ending} {at_ : Int} {lc : Value} {b : Bool} (hown : w.ownsRow B 67 3 v fs.length (zC9 fs)) (hB : B ≤ w.heap.size) (hb : Below w.heap.size w w0)
 (ho : w1.ownsRow B 67 3 v1 (fs.length + 1) (zC9 fs ++ frow y)) (hg : (w0.alloc (.cells (frow y).toArray 67)).grownBy w1 v.ownBlock) (he : e = .returned v1) (hF : FIs at_ lc b w1 y) (hl : ∀ x, fs[fs.length - 1]? = some x → x.at_ ≠ at_) : zPd B pr fs at_ lc b w e w1 := by
 have hz := hb.size
 have hb2 : Below w.heap.size w (w0.alloc (.cells (frow y).toArray 67)) := hb.alloc hz _
 have own2 := zA3 hown (Same.of_below (T := 67) hb2)
 refine ⟨v1, fs ++ [y], he, ?_, .inr ⟨y, rfl, hF, hl⟩, ?_, fun T hT => (Same.of_below hb2).trans (Same.of_grown own2 hg hT)⟩
 · rw [zJb, List.length_append]
   simpa [zC9] using ho
 · exact (Kq.of_below hb2 hB).grown hg (by simp; omega) (fun k e => (own2.lt k e).1)
theorem zIf {B pr : Nat} {v : Value} {fs : List FM} {w w0 : World} {e : Ending} {at_ : Int} {lc : Value} {b : Bool} (hown : w.ownsRow B 67 3 v fs.length (zC9 fs)) (hB : B ≤ w.heap.size) (hb : Below w.heap.size w w0) (he : e = .returned v) (hl : ∃ x, fs[fs.length - 1]? = some x ∧ x.at_ = at_) : zPd B pr fs at_ lc b w e w0 :=
 ⟨v, fs, he, zA3 hown (Same.of_below hb), .inl ⟨rfl, hl⟩, Kq.of_below hb hB, fun _ _ => Same.of_below hb⟩
theorem FIs.no {at_ : Int} {lc : Value} {w : World} {h1 : lc.oneCell' = true} {h2 : (Value.slice none 0 0).oneCell' = true} : FIs at_ lc false w ⟨at_, lc, .slice none 0 0, h1, h2⟩ := ⟨rfl, rfl, by simp⟩
theorem FIs.yes {at_ : Int} {lc : Value} {w : World} {g : Nat} {h1 : lc.oneCell' = true} {h2 : (Value.slice (some ⟨g, 0, none⟩) 1 1).oneCell' = true} (h : w.heap[g]? = some sThr) : FIs at_ lc true w ⟨at_, lc, .slice (some ⟨g, 0, none⟩) 1 1, h1, h2⟩ := ⟨rfl, rfl, by rw [if_pos rfl]; exact ⟨g, rfl, h⟩⟩
theorem stThr {B : Nat} {w w1 : World} {v : Value} {m : Nat} {xs : List Value} {al : Option Addr} {nl cl : Nat} {at_ : Int} {o : Obj} (hown : w.ownsRow B 67 3 v m xs)
 (hg : ((((w.alloc (.cells #[.int .i64 at_, .slice al nl cl, .slice (some ⟨w.heap.size + 1, 0, none⟩) 1 1] 67)).alloc (.cells #[.string ⟨#[76, 84, 104, 114, 111, 119, 97, 98, 108, 101, 59]⟩] 9))).alloc o).grownBy w1 v.ownBlock) : w1.heap[w.heap.size + 1]? = some sThr := by
 rw [hg.block (w.heap.size + 1) (by simp) ?_, (zA2 _ _).block _ (by simp)]
 · have := heap_alloc_new (w.alloc (.cells #[.int .i64 at_, .slice al nl cl, .slice (some ⟨w.heap.size + 1, 0, none⟩) 1 1] 67)) (.cells #[.string ⟨#[76, 84, 104, 114, 111, 119, 97, 98, 108, 101, 59]⟩] 9)
   simpa [sThr] using this
 · intro e
   have := (hown.lt _ e.symm).2
   omega
theorem zP8 (B pr : Nat) (v : Value) (fs : List FM) (at_ : Int) (al : Option Addr) (nl cl : Nat) (b : Bool) (w : World) (hown : w.ownsRow B 67 3 v fs.length (zC9 fs)) (hn : fs.length ≤ 100000) (hB : B ≤ w.heap.size) :
 Calls Tryz.prog 144 #[v, .int .i64 at_, .slice al nl cl, .bool b] w fun e w' => zPd B pr fs at_ (.slice al nl cl) b w e w' := by
 obtain ⟨ao, cap, el⟩ := zA4 hown
 subst el
 have HO := zA0 hown
 clear hown
 have hlen : (fs.length : Int) ≤ 100000 := by omega
 have HB1 := zA0 (zA2 w (.cells #[.int .i64 at_, .slice al nl cl, .slice none 0 0] 67))
 have HB2 := zA0 ((zA2 w (.cells #[.int .i64 at_, .slice al nl cl, .slice (some ⟨w.heap.size + 1, 0, none⟩) 1 1] 67)).alloc (by simp) (.cells #[.string ⟨#[76, 84, 104, 114, 111, 119, 97, 98, 108, 101, 59]⟩] 9))
 by_cases h0 : (0 : Int) < (fs.length : Int)
 · obtain ⟨x, hx⟩ : ∃ x, fs[fs.length - 1]? = some x := ⟨fs[fs.length - 1]'(by omega), List.getElem?_eq_getElem (by omega)⟩
   obtain ⟨g, cap', ev, hgl, cx⟩ := zOf HO.out hx
   cases ev
   have HX := zA0 hx
   clear hx
   have hne : g ≠ w.heap.size := by omega
   have e3 : ((fs.length : Int) - 1).toNat * 3 = (fs.length - 1) * 3 := by omega
   by_cases he : x.at_ = at_
   all_goals have HAT := zA0 he
   · cases b
     · go_enter Tryz.func144, Tryz.ntmps144
       go_wp2
       go_ret
       exact zIf HO.out hB HB1.out rfl ⟨x, HX.out, HAT.out⟩
     · go_enter Tryz.func144, Tryz.ntmps144
       go_wp2
       go_ret
       exact zIf HO.out hB HB2.out rfl ⟨x, HX.out, HAT.out⟩
   · have HL : Hid (∀ y, fs[fs.length - 1]? = some y → y.at_ ≠ at_) := fun y hy => by rw [HX.out] at hy; cases hy; exact HAT.out
     cases b
     · go_enter Tryz.func144, Tryz.ntmps144
       go_wp2_with (at_builtin; refine zDd rfl _ _ rfl B (.slice (some ⟨g, 0, none⟩) fs.length cap) _ _ ⟨at_, .slice al nl cl, .slice none 0 0, rfl, rfl⟩ rfl (zA3 HO.out (Same.of_below HB1.out)) (by rw [show (w.alloc (.cells #[.int .i64 at_, .slice al nl cl, .slice none 0 0] 67)).heap.size = w.heap.size + 1 from by simp]; rfl) (by omega) (by simp; omega) ?_; intro v1 w1 ho1 hg1; have HF := zA0 (zEo (pr := pr) (at_ := at_) (lc := .slice al nl cl) (b := false) HO.out hB HB1.out ho1 hg1 rfl FIs.no HL.out); clear ho1 hg1)
       go_ret
       exact HF.out
     · go_enter Tryz.func144, Tryz.ntmps144
       go_wp2_with (at_builtin; refine zDd rfl _ _ rfl B (.slice (some ⟨g, 0, none⟩) fs.length cap) _ _ ⟨at_, .slice al nl cl, .slice (some ⟨w.heap.size + 1, 0, none⟩) 1 1, rfl, rfl⟩ rfl (zA3 HO.out (Same.of_below HB2.out)) (by rw [show ((w.alloc (.cells #[.int .i64 at_, .slice al nl cl, .slice (some ⟨w.heap.size + 1, 0, none⟩) 1 1] 67)).alloc (.cells #[.string ⟨#[76, 84, 104, 114, 111, 119, 97, 98, 108, 101, 59]⟩] 9)).heap.size = w.heap.size + 1 + 1 from by simp]; rfl) (by omega) (by simp; omega) ?_; intro v1 w1 ho1 hg1; have HF := zA0 (zEo (pr := pr) (at_ := at_) (lc := .slice al nl cl) (b := true) HO.out hB HB2.out ho1 hg1 rfl (FIs.yes (stThr HO.out hg1)) HL.out); clear ho1 hg1)
       go_ret
       exact HF.out
 · have HL : Hid (∀ y, fs[fs.length - 1]? = some y → y.at_ ≠ at_) := fun y hy => by have := (List.getElem?_eq_some_iff.1 hy).1; omega
   cases b
   · go_enter Tryz.func144, Tryz.ntmps144
     go_wp2_with (at_builtin; refine zDd rfl _ _ rfl B (.slice ao fs.length cap) _ _ ⟨at_, .slice al nl cl, .slice none 0 0, rfl, rfl⟩ rfl (zA3 HO.out (Same.of_below HB1.out)) (by rw [show (w.alloc (.cells #[.int .i64 at_, .slice al nl cl, .slice none 0 0] 67)).heap.size = w.heap.size + 1 from by simp]; rfl) (by omega) (by simp; omega) ?_; intro v1 w1 ho1 hg1; have HF := zA0 (zEo (pr := pr) (at_ := at_) (lc := .slice al nl cl) (b := false) HO.out hB HB1.out ho1 hg1 rfl FIs.no HL.out); clear ho1 hg1)
     go_ret
     exact HF.out
   · go_enter Tryz.func144, Tryz.ntmps144
     go_wp2_with (at_builtin; refine zDd rfl _ _ rfl B (.slice ao fs.length cap) _ _ ⟨at_, .slice al nl cl, .slice (some ⟨w.heap.size + 1, 0, none⟩) 1 1, rfl, rfl⟩ rfl (zA3 HO.out (Same.of_below HB2.out)) (by rw [show ((w.alloc (.cells #[.int .i64 at_, .slice al nl cl, .slice (some ⟨w.heap.size + 1, 0, none⟩) 1 1] 67)).alloc (.cells #[.string ⟨#[76, 84, 104, 114, 111, 119, 97, 98, 108, 101, 59]⟩] 9)).heap.size = w.heap.size + 1 + 1 from by simp]; rfl) (by omega) (by simp; omega) ?_; intro v1 w1 ho1 hg1; have HF := zA0 (zEo (pr := pr) (at_ := at_) (lc := .slice al nl cl) (b := true) HO.out hB HB2.out ho1 hg1 rfl (FIs.yes (stThr HO.out hg1)) HL.out); clear ho1 hg1)
     go_ret
     exact HF.out
structure COk (c : CD) : Prop where
 ok : P3.CD.Ok c
 sm : P3.CD.Small c
theorem zS0 (l : List CD) (c : CD) : (P3.addZ l c).1.length ≤ l.length + 1 := by
 unfold P3.addZ
 split
 · split
   · simp
   · split <;> simp
 · simp
theorem add_ok {l : List CD} {c : CD} (h : ∀ x ∈ l, P3.CD.Ok x) (hc : P3.CD.Ok c) : ∀ x ∈ (P3.addZ l c).1, P3.CD.Ok x := by
 unfold P3.addZ
 split
 · split
   · exact h
   · split
     · intro x hx; simp at hx
     · intro x hx
       rcases List.mem_append.1 hx with hx | hx
       · exact h x hx
       · simp at hx; subst hx; exact hc
 · intro x hx; simp at hx
theorem zNh (B : Nat) (v : Value) (l : List CD) (c : CD) (w : World) (ho : w.ownsRow B 112 5 v l.length (zB2 l)) (hl : l.length ≤ 1000000) (hc : COk c) (hs : ∀ x ∈ l, P3.CD.Ok x) :
 Calls Tryz.prog 165 #[v, P3.CD.val c] w fun e w' => Below w.heap.size w w' ∧ ∃ v' y, e = .returned (.tuple #[v', .int .i64 (P3.addZ l c).2.1, .int .i64 y]) ∧ w'.ownsRow w.heap.size 112 5 v' (P3.addZ l c).1.length (zB2 (P3.addZ l c).1) := by
 refine (P3.zQa v l c w (P3.zGk.of_own ho hs) hc.sm (by omega)).mono fun e w' ⟨hb, v', he, ho'⟩ => ⟨hb, v', _, he, ho'⟩
theorem zIg {w : World} {B B' n s : Nat} {T : TypeId} {v : Value} {xs : List Value} (h : w.ownsRow B T s v n xs) (hB : B' ≤ B) : w.ownsRow B' T s v n xs := by
 refine ⟨h.1, ?_⟩
 rcases h.2 with x | ⟨g, cap, cur, e, hb, r⟩
 · exact .inl x
 · exact .inr ⟨g, cap, cur, e, by omega, r⟩
theorem MkP.setP {B pr pm : Nat} {s : MS} {w : World} {v : Value} {l : List CD} (h : MkP B pr pm s w) (ho : w.ownsRow 0 112 5 v l.length (zB2 l)) : MkP B pr pm { s with vp := v, pool := l } (w.setCell ⟨pm, 1, none⟩ v) := by
 have S : ∀ T, T ≠ 144 → Same T w (w.setCell ⟨pm, 1, none⟩ v) := fun T hT => Same.of_set h.blk hT
 refine ⟨by rw [zB3 h.blk]; rfl, S 104 (by decide) _ _ h.rec_, h.rl.kq ((Kq.refl B pr w).set (.inl h.hpm)), zA3 ho (S 112 (by decide)), zA3 h.l (S 181 (by decide)), zA3 h.h (S 190 (by decide)), zA3 h.t (S 3 (by decide)), h.hpm, h.hpr, h.at_le⟩
theorem zDb (B pr pm n d : Nat) (pl : Bool) (σ : SG) (c : CD) (w : World) (h : Mk B pr pm n d pl σ w) (hn : n ≤ 900000) (hc : COk c) :
 Calls Tryz.prog 138 #[.pointer (some ⟨pm, 0, none⟩), P3.CD.val c] w fun e w' => e = .returned (.int .i64 (σ.ix c)) ∧ Mk B pr pm (n + 1) d pl (σ.add c) w' ∧ Kq B pr w w' := by
 obtain ⟨s, HP0, HB, hsg⟩ := h
 have HSG := zA0 hsg
 have HIX : Hid (σ.ix c = (P3.addZ s.pool c).2.1) := by show _ = _; rw [← hsg]; rfl
 clear hsg
 generalize σ.ix c = IX at *
 have b0 := zA2 w (.cells #[.int .i64 c.kind, .int .i32 c.n, .string c.cls, .string c.nm, .string c.dsc] 112)
 have hx := heap_alloc_new w (.cells #[.int .i64 c.kind, .int .i32 c.n, .string c.cls, .string c.nm, .string c.dsc] 112)
 have HP := HP0.below b0
 have K0 := Kq.of_below (pr := pr) b0 HP0.lt.2
 have hpn := HB.pn
 have hlt0 := HP0.lt
 clear HP0 b0
 generalize hW : w.alloc (.cells #[.int .i64 c.kind, .int .i32 c.n, .string c.cls, .string c.nm, .string c.dsc] 112) = W at *
 have HW := zA0 hW
 clear hW
 obtain ⟨-, c1, -, -, -, -, -⟩ := zE8 HP.blk
 obtain ⟨aop, capp, ep⟩ := zA4 HP.p
 have GA := zNh 0 s.vp s.pool c W.drew (zA3 HP.p (Same.refl _ _)) (by omega) hc HB.small
 rw [← HIX.out] at GA
 rw [ep] at c1 GA
 unfold P3.CD.val at GA ⊢
 have HGA := zA0 GA
 have d0 := zA1 hx 0 rfl
 have d1 := zA1 hx 1 rfl
 have d2 := zA1 hx 2 rfl
 have d3 := zA1 hx 3 rfl
 have d4 := zA1 hx 4 rfl
 have hS2 : Hid (W.drew.cell? ⟨pm, 1, none⟩ = some (.slice aop s.pool.length capp) ∧ W.drew.cell? ⟨w.heap.size, 0, none⟩ = some (.int .i64 c.kind) ∧ W.drew.cell? ⟨w.heap.size, 1, none⟩ = some (.int .i32 c.n) ∧ W.drew.cell? ⟨w.heap.size, 2, none⟩ = some (.string c.cls) ∧ W.drew.cell? ⟨w.heap.size, 3, none⟩ = some (.string c.nm) ∧ W.drew.cell? ⟨w.heap.size, 4, none⟩ = some (.string c.dsc)) := ⟨c1, d0, d1, d2, d3, d4⟩
 have hS3 : Hid (∀ W3, Below W.drew.heap.size W.drew W3 → (W3.cell? ⟨pm, 1, none⟩ = some (.slice aop s.pool.length capp) ∧ W3.cell? ⟨w.heap.size, 0, none⟩ = some (.int .i64 c.kind) ∧ W3.cell? ⟨w.heap.size, 1, none⟩ = some (.int .i32 c.n) ∧ W3.cell? ⟨w.heap.size, 2, none⟩ = some (.string c.cls) ∧ W3.cell? ⟨w.heap.size, 3, none⟩ = some (.string c.nm) ∧ W3.cell? ⟨w.heap.size, 4, none⟩ = some (.string c.dsc))) := by
  intro W3 hb
  exact ⟨cell_later hb c1, cell_later hb d0, cell_later hb d1, cell_later hb d2, cell_later hb d3, cell_later hb d4⟩
 clear c1 d0 d1 d2 d3 d4 GA hx
 go_enter Tryz.func138, Tryz.ntmps138
 go_wp2_with fail
 rw [HW.out]
 go_region_held3 (fun W3 => W3.cell? ⟨pm, 1, none⟩ = some (.slice aop s.pool.length capp) ∧ W3.cell? ⟨w.heap.size, 0, none⟩ = some (.int .i64 c.kind) ∧ W3.cell? ⟨w.heap.size, 1, none⟩ = some (.int .i32 c.n) ∧ W3.cell? ⟨w.heap.size, 2, none⟩ = some (.string c.cls) ∧ W3.cell? ⟨w.heap.size, 3, none⟩ = some (.string c.nm) ∧ W3.cell? ⟨w.heap.size, 4, none⟩ = some (.string c.dsc)) (first | exact hS2.out | exact hS3.out _ (by assumption))
  (first
   | (go_at_call 165; refine HGA.out.mono ?_; rintro e w2 ⟨b2, v2, y2, rfl, o2⟩; obtain ⟨ao2, cap2, rfl⟩ := zA4 o2))
 have HP2 := (HP.drew 1).below b2
 obtain ⟨-, q1, -, -, -, -, -⟩ := zE8 HP2.blk
 rw [ep] at q1
 have qf := zAa HP2.blk
 have hz : B ≤ W.drew.heap.size := HP.lt.2
 have HP3 := HP2.setP (zIg o2 (Nat.zero_le _))
 have K3 := ((K0.drew 1).trans (Kq.of_below b2 hz)).set (k := pm) (o := 1) (u := .slice ao2 (P3.addZ s.pool c).1.length cap2) (.inl HP.hpm)
 go_wp2
 go_ret
 refine ⟨rfl, ⟨_, HP3, ?_⟩, K3⟩
 have hal := zS0 s.pool c
 refine ⟨⟨HB.dep, HB.pln, by have := HB.lb; simp only; omega, by have := HB.ln; simp only; omega, by simp only; omega, by have := HB.hn; simp only; omega, by have := HB.tn; simp only; omega, by have := HB.l0; simp only; omega, HB.l1, add_ok HB.small hc.ok⟩, ?_⟩
 rw [← HSG.out]
 rfl
theorem zDr {pr : Nat} {w w' : World} {o : Obj} (ho : zPi pr (w.alloc o) w') (hpr : pr < w.heap.size) : w'.heap[w.heap.size]? = some o :=
 (ho _ (by omega)).trans (heap_alloc_new w o)
theorem zIo {w : World} {g x : Nat} {l : List Int} {T : TypeId} {k : IntKind} (h : w.heap[g]? = some (.cells (l.map (Value.int k)).toArray T (0, 0))) (hx : x < l.length) : ∃ v : Int, w.cell? ⟨g, x, none⟩ = some (.int k v) ∧ v ∈ l :=
 ⟨l[x], zA1 h x (by simp [hx]), List.getElem_mem hx⟩
theorem zH6 {w : World} {g x : Nat} {l : List ByteArray} {T : TypeId} (h : w.heap[g]? = some (.cells (l.map Value.string).toArray T (0, 0))) (hx : x < l.length) : ∃ v : ByteArray, w.cell? ⟨g, x, none⟩ = some (.string v) ∧ v ∈ l :=
 ⟨l[x], zA1 h x (by simp [hx]), List.getElem_mem hx⟩
def cInt (n : Int) : CD := ⟨3, n, ⟨#[]⟩, ⟨#[]⟩, ⟨#[]⟩⟩
def cFld (a b c : ByteArray) : CD := ⟨9, 0, a, b, c⟩
def cMet (a b c : ByteArray) : CD := ⟨10, 0, a, b, c⟩
def cCls (a : ByteArray) : CD := ⟨7, 0, a, ⟨#[]⟩, ⟨#[]⟩⟩
theorem cok3 {k n : Int} {a b c : ByteArray} (h0 : -2147483648 ≤ n) (h1 : n ≤ 2147483647) (z1 : a.size ≤ 1000000) (z2 : b.size ≤ 1000000) (z3 : c.size ≤ 1000000) : COk ⟨k, n, a, b, c⟩ :=
 ⟨⟨⟨by show a.size ≤ _; omega, by show b.size ≤ _; omega, by show c.size ≤ _; omega⟩, h0, h1⟩, ⟨by show a.size ≤ _; omega, by show b.size ≤ _; omega, by show c.size ≤ _; omega⟩⟩
theorem sz0 : (⟨#[]⟩ : ByteArray).size ≤ 1000000 := (show (0 : Nat) ≤ 1000000 by omega)
theorem zA6 (B pr pm n d : Nat) (pl : Bool) (σ : SG) (K : Int) (w : World) (h : Mk B pr pm n d pl σ w) (h0 : 0 < K) (h1 : K ≤ 100000) :
 Calls Tryz.prog 55 #[.pointer (some ⟨pr, 0, none⟩), .int .i64 K] w fun e w' => (∃ x : Nat, (x : Int) < K ∧ e = .returned (.int .i64 (x : Int))) ∧ Mk B pr pm n d pl σ w' ∧ Kq B pr w w' ∧ zPi pr w w' := by
 obtain ⟨k, rfl⟩ := Int.eq_ofNat_of_zero_le (Int.le_of_lt h0)
 refine (zQk B pr pm n d pl σ k w h (by omega) (by omega)).mono fun e w' ⟨⟨x, hx, he⟩, h2⟩ => ⟨⟨x, by omega, he⟩, h2⟩
theorem Mk.pr_lt {B pr pm n d : Nat} {pl : Bool} {σ : SG} {w : World} (h : Mk B pr pm n d pl σ w) : pr < w.heap.size := by
 obtain ⟨s, hp, -⟩ := h
 have := hp.lt
 have := hp.hpr
 omega
theorem Mk.pm_lt {B pr pm n d : Nat} {pl : Bool} {σ : SG} {w : World} (h : Mk B pr pm n d pl σ w) : pm < w.heap.size := by
 obtain ⟨s, hp, -⟩ := h
 exact hp.lt.1
theorem Mk.read {B pr pm n d : Nat} {pl : Bool} {σ : SG} {w : World} (h : Mk B pr pm n d pl σ w) : w.cell? ⟨pm, 0, none⟩ = some (.pointer (some ⟨pr, 0, none⟩)) ∧ w.cell? ⟨pm, 3, none⟩ = some (.int .i64 (σ.labels : Int)) ∧ w.cell? ⟨pm, 4, none⟩ = some (.bool pl) ∧ w.cell? ⟨pm, 5, none⟩ = some (.int .i64 σ.left) ∧ w.cell? ⟨pm, 6, none⟩ = some (.int .i64 (d : Int)) ∧ σ.labels ≤ n ∧ σ.left ≤ 110 := by
 obtain ⟨s, hp, hb, rfl⟩ := h
 obtain ⟨c0, -, -, c3, c4, c5, c6⟩ := zE8 hp.blk
 rw [hb.pln] at c4
 rw [hb.dep] at c6
 exact ⟨c0, c3, c4, c5, c6, hb.lb, hb.l1⟩
theorem Mk.read2 {B pr pm n d : Nat} {pl : Bool} {σ : SG} {w : World} (h : Mk B pr pm n d pl σ w) : w.cell? ⟨pm, 0, none⟩ = some (.pointer (some ⟨pr, 0, none⟩)) ∧ w.cell? ⟨pm, 3, none⟩ = some (.int .i64 (σ.labels : Int)) ∧ w.cell? ⟨pm, 4, none⟩ = some (.bool pl) ∧ w.cell? ⟨pm, 5, none⟩ = some (.int .i64 σ.left) ∧ w.cell? ⟨pm, 6, none⟩ = some (.int .i64 (d : Int)) ∧ σ.labels ≤ n ∧ σ.left ≤ 110 ∧ pr < w.heap.size ∧ pm < w.heap.size := by
 obtain ⟨c0, c3, c4, c5, c6, hL, hl⟩ := h.read
 exact ⟨c0, c3, c4, c5, c6, hL, hl, h.pr_lt, h.pm_lt⟩
theorem zId (B pr pm n d : Nat) (pl : Bool) (σ : SG) (N : Int) (w : World) (h : Mk B pr pm n d pl σ w) (hn : n ≤ 900000) (h0 : -2147483648 ≤ N) (h1 : N ≤ 2147483647) :
 Calls Tryz.prog 138 #[.pointer (some ⟨pm, 0, none⟩), .agg #[.int .i64 3, .int .i32 N, .string ⟨#[]⟩, .string ⟨#[]⟩, .string ⟨#[]⟩]] w fun e w' => e = .returned (.int .i64 (σ.ix (cInt N))) ∧ Mk B pr pm (n + 1) d pl (σ.add (cInt N)) w' ∧ Kq B pr w w' :=
 zDb B pr pm n d pl σ (cInt N) w h hn (cok3 h0 h1 sz0 sz0 sz0)
theorem zAy (B pr pm n d : Nat) (pl : Bool) (σ : SG) (s1 s2 s3 : ByteArray) (w : World) (h : Mk B pr pm n d pl σ w) (hn : n ≤ 900000) (z1 : s1.size ≤ 1000000) (z2 : s2.size ≤ 1000000) (z3 : s3.size ≤ 1000000) :
 Calls Tryz.prog 140 #[.pointer (some ⟨pm, 0, none⟩), .string s1, .string s2, .string s3] w fun e w' => e = .returned (.int .i64 (σ.ix (cFld s1 s2 s3))) ∧ Mk B pr pm (n + 1) d pl (σ.add (cFld s1 s2 s3)) w' ∧ Kq B pr w w' := by
 have G2 : Hid (Calls Tryz.prog 138 #[.pointer (some ⟨pm, 0, none⟩), .agg #[.int .i64 9, .int .i32 0, .string s1, .string s2, .string s3]] w fun e w' => e = .returned (.int .i64 (σ.ix (cFld s1 s2 s3))) ∧ Mk B pr pm (n + 1) d pl (σ.add (cFld s1 s2 s3)) w' ∧ Kq B pr w w') := zDb B pr pm n d pl σ (cFld s1 s2 s3) w h hn (cok3 (by decide) (by decide) z1 z2 z3)
 go_enter Tryz.func140, Tryz.ntmps140
 go_wp2_with fail
 refine G2.out.mono ?_
 rintro e w1 ⟨rfl, hm, hk⟩
 go_wp2
 go_ret
 exact ⟨rfl, hm, hk⟩
theorem zAh (B pr pm n d : Nat) (pl : Bool) (σ : SG) (s1 s2 s3 : ByteArray) (w : World) (h : Mk B pr pm n d pl σ w) (hn : n ≤ 900000) (z1 : s1.size ≤ 1000000) (z2 : s2.size ≤ 1000000) (z3 : s3.size ≤ 1000000) :
 Calls Tryz.prog 141 #[.pointer (some ⟨pm, 0, none⟩), .string s1, .string s2, .string s3] w fun e w' => e = .returned (.int .i64 (σ.ix (cMet s1 s2 s3))) ∧ Mk B pr pm (n + 1) d pl (σ.add (cMet s1 s2 s3)) w' ∧ Kq B pr w w' := by
 have G2 : Hid (Calls Tryz.prog 138 #[.pointer (some ⟨pm, 0, none⟩), .agg #[.int .i64 10, .int .i32 0, .string s1, .string s2, .string s3]] w fun e w' => e = .returned (.int .i64 (σ.ix (cMet s1 s2 s3))) ∧ Mk B pr pm (n + 1) d pl (σ.add (cMet s1 s2 s3)) w' ∧ Kq B pr w w') := zDb B pr pm n d pl σ (cMet s1 s2 s3) w h hn (cok3 (by decide) (by decide) z1 z2 z3)
 go_enter Tryz.func141, Tryz.ntmps141
 go_wp2_with fail
 refine G2.out.mono ?_
 rintro e w1 ⟨rfl, hm, hk⟩
 go_wp2
 go_ret
 exact ⟨rfl, hm, hk⟩
theorem zBf (B pr pm n d : Nat) (pl : Bool) (σ : SG) (s1 : ByteArray) (w : World) (h : Mk B pr pm n d pl σ w) (hn : n ≤ 900000) (z1 : s1.size ≤ 1000000) :
 Calls Tryz.prog 142 #[.pointer (some ⟨pm, 0, none⟩), .string s1] w fun e w' => e = .returned (.int .i64 (σ.ix (cCls s1))) ∧ Mk B pr pm (n + 1) d pl (σ.add (cCls s1)) w' ∧ Kq B pr w w' := by
 have G2 : Hid (Calls Tryz.prog 138 #[.pointer (some ⟨pm, 0, none⟩), .agg #[.int .i64 7, .int .i32 0, .string s1, .string ⟨#[]⟩, .string ⟨#[]⟩]] w fun e w' => e = .returned (.int .i64 (σ.ix (cCls s1))) ∧ Mk B pr pm (n + 1) d pl (σ.add (cCls s1)) w' ∧ Kq B pr w w') := zDb B pr pm n d pl σ (cCls s1) w h hn (cok3 (by decide) (by decide) z1 sz0 sz0)
 go_enter Tryz.func142, Tryz.ntmps142
 go_wp2_with fail
 refine G2.out.mono ?_
 rintro e w1 ⟨rfl, hm, hk⟩
 go_wp2
 go_ret
 exact ⟨rfl, hm, hk⟩
end Go.Proofs.YtpehimfnkmepnaaGreat.M
