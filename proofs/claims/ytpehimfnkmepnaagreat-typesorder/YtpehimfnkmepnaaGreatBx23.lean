import Derived.Test.YtpehimfnkmepnaaGreatBx22
import Derived.Test.YtpehimfnkmepnaaGreatBx19
set_option maxRecDepth 8000
set_option maxHeartbeats 40000000
namespace Go.Proofs.YtpehimfnkmepnaaGreat.K
open Go.RowKit Q Q.D
def KEnd (R : List KD) : Prop := (∀ k ∈ R, k.nm ≠ ⟨#[]⟩) ∧ ∀ k, R.getLast? = some k → k.sup = ⟨#[]⟩
theorem KEnd.tail {m : KD} {o : List KD} (h : KEnd (m :: o)) : KEnd o := by
 refine ⟨fun k hk => h.1 k (by simp [hk]), fun k hk => h.2 k ?_⟩
 cases o with
 | nil => simp at hk
 | cons x o => rw [List.getLast?_cons_cons]; exact hk
theorem zLt : ∀ {R : List KD} {t : ByteArray} {k : KD}, KWf R → KEnd R → zB7 R t = some k → (∃ p, zB7 R k.sup = some p) ∨ k.sup = ⟨#[]⟩
 | [], _, _, _, _, h => by simp [zB7] at h
 | m :: o, t, k, hw, he, h => by
   have up : ∀ {s : ByteArray} {p : KD}, zB7 o s = some p → ∃ p, zB7 (m :: o) s = some p := fun {s p} hp => by
    by_cases hs : s = m.nm
    · exact ⟨m, zCs hs⟩
    · exact ⟨p, by rw [zD8 hs]; exact hp⟩
   by_cases hs : t = m.nm
   · rw [zCs hs] at h
     cases h
     rcases hw.2.1 with ⟨h0, _⟩ | ⟨p, hp⟩
     · subst h0
       exact .inr (he.2 m rfl)
     · exact .inl (up hp)
   · rw [zD8 hs] at h
     rcases zLt hw.2.2 he.tail h with ⟨p, hp⟩ | h
     · exact .inl (up hp)
     · exact .inr h
theorem zLo : ∀ {R : List KD} {t : ByteArray}, zB7 R t = none → klin R t = []
 | [], _, _ => rfl
 | m :: o, t, h => by
   by_cases hs : t = m.nm
   · rw [zCs hs] at h; cases h
   · rw [zD8 hs] at h
     rw [zD5 hs, zLo h]
theorem zM1 : ∀ {R : List KD} {t : ByteArray} {k : KD}, KWf R → KEnd R → zB7 R t = some k → klin R t = k :: klin R k.sup
 | [], _, _, _, _, h => by simp [zB7] at h
 | m :: o, t, k, hw, he, h => by
   have ne : ∀ {s : ByteArray}, ((∃ p, zB7 o s = some p) ∨ s = ⟨#[]⟩) → s ≠ m.nm := fun {s} hs e => by
    rcases hs with ⟨p, hp⟩ | hs
    · rw [e, hw.1] at hp; cases hp
    · exact he.1 m (by simp) (by rw [← e, hs])
   by_cases hs : t = m.nm
   · rw [zCs hs] at h
     cases h
     rw [zDn hs, zD5]
     rcases hw.2.1 with ⟨h0, _⟩ | hp
     · subst h0
       exact ne (.inr (he.2 m rfl))
     · exact ne (.inl hp)
   · rw [zD8 hs] at h
     rw [zD5 hs, zM1 hw.2.2 he.tail h, zD5 (ne (zLt hw.2.2 he.tail h))]
theorem zIi {R : List KD} {s : ByteArray} {k : KD} (hw : KWf R) (h : zB7 R s = some k) : ∃ m : Nat, R.reverse[m]? = some k ∧ ∀ (j : Nat) (x : KD), j < m → R.reverse[j]? = some x → (x.nm.toList == s.toList) = false := by
 have uniq : ∀ {R : List KD}, KWf R → R.Pairwise (fun a b => a.nm ≠ b.nm) := fun {R} => by
  induction R with
  | nil => exact fun _ => List.Pairwise.nil
  | cons m o ih => exact fun hw => List.pairwise_cons.2 ⟨fun b hb e => zCm hw.1 b hb e.symm, ih hw.2.2⟩
 have hu := List.pairwise_reverse.2 (uniq hw)
 have hk := zDu h
 obtain ⟨m, hm⟩ := List.mem_iff_getElem?.1 (List.mem_reverse.2 hk.2)
 refine ⟨m, hm, fun j x hj hx => ?_⟩
 rw [beq_eq_false_iff_ne]
 intro e
 have e2 : x.nm = s := zCg e
 obtain ⟨h1, e3⟩ := List.getElem?_eq_some_iff.1 hm
 obtain ⟨h2, e4⟩ := List.getElem?_eq_some_iff.1 hx
 have := List.pairwise_iff_getElem.1 hu j m h2 h1 hj
 rw [e3, e4] at this
 exact this (by rw [hk.1, e2])
theorem zKu {R : List KD} {s : ByteArray} (h : zB7 R s = none) : ∀ (j : Nat) (x : KD), R.reverse[j]? = some x → (x.nm.toList == s.toList) = false := fun j x hx => by
 rw [beq_eq_false_iff_ne]
 intro e
 exact zCm h x (List.mem_reverse.1 (List.mem_of_getElem? hx)) (zCg e)
theorem zLd : ∀ (R : List KD) (s : ByteArray), (klin R s).length ≤ R.length
 | [], _ => by simp [klin]
 | x :: R, s => by
   unfold klin
   split
   · have := zLd R x.sup
     simp only [List.length_cons]; omega
   · have := zLd R s
     simp only [List.length_cons]; omega
theorem ownB {w w' : World} {B T s n : Nat} {v : Value} {xs : List Value} (h : w.ownsRow B T s v n xs) (hb : Below w.heap.size w w') : w'.ownsRow B T s v n xs := by
 refine ⟨h.1, ?_⟩
 rcases h.2 with x | ⟨g, cap, cur, rfl, hB, hg, r⟩
 · exact .inl x
 · exact .inr ⟨g, cap, cur, rfl, hB, (hb.block g (Array.getElem?_eq_some_iff.1 hg).1).trans hg, r⟩
theorem zRn {w : World} {b : Nat} {cs : Array Value} {T : TypeId} (h : w.heap[b]? = some (.cells cs T (0, 0))) (j : Nat) {v : Value} (hv : cs[j]? = some v) : w.cell? ⟨b, j, none⟩ = some v := by
 simp [World.cell?, h, hv]
def zB6 (l : List ByteArray) : List Value := l.map Value.string
theorem zJp {w : World} {ops : Array Oper} {rest : List Oper} {o : Oper} {a : Act} {Q : Exit → Act → World → Prop} (hgd : o.guard = none) (s x : Operand)
 (ho : o.op = .call { callee := .builtin .append, args := #[s, x], argTypes := #[47, 47] })
 (B : Nat) (v : Value) (l : List ByteArray) (y : ByteArray) (hown : w.ownsRow B 9 1 v l.length (zB6 l)) (hs : a.eval s = v) (hx : a.eval x = .slice (some ⟨w.heap.size, 0, none⟩) 1 1)
 (hlen : l.length ≤ 1000000) (hB : B ≤ w.heap.size)
 (h : ∀ ao' cap' w', w'.ownsRow B 9 1 (.slice ao' (l.length + 1) cap') (l ++ [y]).length (zB6 (l ++ [y])) → Below B w w' → (∀ (k : Nat) (cs : Array Value) (U : TypeId), 9 ≠ U → w.heap[k]? = some (.cells cs U (0, 0)) → w'.heap[k]? = some (.cells cs U (0, 0))) → wpList Tryz.prog ops Q rest (a.put o.dst (.slice ao' (l.length + 1) cap')) w') :
 wpList Tryz.prog ops Q (o :: rest) a (w.alloc (.cells #[.string y] 9)) := by
 obtain ⟨i0, hi, hz0, hz1, hz2⟩ := info_parts Tryz.info9k
 refine wpList_plain hgd fun K hK => ?_
 obtain ⟨v', w', hr, h2, h3, _, h4⟩ := run_append_own_at (P := Tryz.prog) (w.alloc (.cells #[.string y] 9)) B 47 o.type 9 i0 (.string ⟨#[]⟩) 1 16 Tryz.underlying47 hi hz0 hz1 hz2 rfl (by decide) v l.length (zB6 l) (hown.alloc _) ⟨w.heap.size, 0, none⟩ 1 1 [.string y] rfl
  (fun j u hj => by
   match j, hj with
   | 0, hj => simp at hj; subst hj; exact (zCn w _ _).1
   | j + 1, hj => simp at hj) (by simp [Value.oneCell']) (by unfold maxLen; omega) (by omega) (by simp; omega)
 unfold Oper.wp execOp
 simp only [ho, resolve, invoke, builtin, Sem.run_bind, Sem.run_pure, Result.andThen_ok, List.map_toArray, List.map_cons, List.map_nil, hs, hx, hr]
 obtain ⟨g', cap', rfl⟩ := ownsRow_succ h2
 refine hK _ _ (h _ cap' w' ?_ ((((Below.refl B w).alloc hB _)).grown h3 (by simp; omega) (fun k hk => (hown.lt k hk).1)) (fun k cs U hU hk => ?_))
 rotate_left
 · have hlt := (Array.getElem?_eq_some_iff.1 hk).1
   rw [h3.block k (by simp; omega) (fun e => ?_), Below.heap_alloc _ _ _ hlt]
   · exact hk
   · rcases hown.2 with ⟨rfl, _⟩ | ⟨g, cap, cur, rfl, _, hg, _⟩
     · cases e
     · cases e
       rw [hg] at hk
       cases hk
       exact hU rfl
 have e : zB6 (l ++ [y]) = zB6 l ++ [.string y] := by simp [zB6]
 rw [e, List.length_append]
 exact h2
theorem zRf (w : World) (pk : Nat) (R : List KD) (ao : Option Addr) (c : Nat) (h : RV w pk R.reverse ao c) (hw : KWf R) (he : KEnd R) (hR : R.length ≤ 1000) (a : ByteArray) :
 Calls Tryz.prog 78 #[.pointer (some ⟨pk, 0, none⟩), .string a] w fun e w' => ∃ v, e = .returned v ∧ w'.ownsRow w.heap.size 9 1 v ((klin R a).map KD.nm).length (zB6 ((klin R a).map KD.nm)) ∧ Below w.heap.size w w' := by
 have HV := D.zA0 h
 have HW := D.zA0 hw
 have HE := D.zA0 he
 have hla : (klin R a).length ≤ 1000 := Nat.le_trans (zLd R a) hR
 clear h hw he
 go_enter Tryz.func78, Tryz.ntmps78
 go_wp2_with fail
 go_loopg [1, 5, 6, 7] (klin R a).length (fun gg nm out _ _ wr => ∃ (t : ByteArray) (acc : List ByteArray), nm = .string t ∧ wr.ownsRow w.heap.size 9 1 out acc.length (zB6 acc) ∧ Below w.heap.size w wr ∧ acc ++ (klin R t).map KD.nm = (klin R a).map KD.nm ∧ (klin R t).length ≤ gg)
 case atStart => exact ⟨a, [], rfl, World.ownsRow_nil _ _ _ _, Below.refl _ _, rfl, Nat.le_refl _⟩
 case round =>
  obtain ⟨t, acc, rfl, ho, hb, hE, hg⟩ := hrel
  have HO := D.zA0 ho
  have HB := D.zA0 hb
  have HA := D.zA0 hE
  have HG := D.zA0 hg
  clear ho hb hE hg
  cases hk : zB7 R t with
  | none =>
    have G := D.zA0 (zJg _ pk _ ao c (HV.out.below HB.out) t (zKu hk))
    have hnil := zLo hk
    have HZ := D.zA0 hnil
    clear hk hnil
    go_wp2_with (go_at_call 69; refine G.out.mono ?_; rintro e w1 ⟨hb1, rfl⟩; have HB1 := D.zA0 hb1; clear hb1)
    go_ret
    have e1 := HA.out
    rw [HZ.out, List.map_nil, List.append_nil] at e1
    have B2 := next HB1.out (zA6 w1 (.cells #[.string ⟨#[]⟩, .string ⟨#[]⟩, .slice none 0 0, .slice none 0 0, .slice none 0 0] 31))
    refine ⟨_, rfl, ?_, next HB.out B2⟩
    rw [← e1]
    exact ownB HO.out B2
  | some k =>
    obtain ⟨m, hm1, hm2⟩ := zIi HW.out hk
    have hnm := (zDu hk).1
    have G := D.zA0 (zId _ pk _ ao c (HV.out.below HB.out) t m k hm1 hnm hm2)
    have hst := zM1 HW.out HE.out hk
    have hle : acc.length + (klin R t).length ≤ 1000 := by
     have := congrArg List.length HA.out
     simp at this
     omega
    rw [hst] at HA HG hle
    subst hnm
    have hal : acc.length ≤ 1000000 := by omega
    clear hk hst hm1 hm2 hle
    go_upto_region 3 with (go_at_call 69; refine G.out.mono ?_; rintro e w1 ⟨hb1, v1, rfl, o1, c1, o2, c2, o3, c3, rfl, -⟩; have HB1 := D.zA0 hb1; clear hb1)
    have B2 := D.zA0 (next HB1.out (zA6 w1 (.cells #[.string k.nm, .string k.sup, .slice o1 k.pool.length c1, .slice o2 k.fs.length c2, .slice o3 k.ms.length c3] 31)))
    have HO2 := D.zA0 (ownB HO.out B2.out)
    have HX := D.zA0 (Blk.new w1 #[.string k.nm, .string k.sup, .slice o1 k.pool.length c1, .slice o2 k.fs.length c2, .slice o3 k.ms.length c3] 31)
    have HB2 := D.zA0 (next HB.out B2.out)
    clear G HB1 B2
    generalize hW2 : w1.alloc (.cells #[.string k.nm, .string k.sup, .slice o1 k.pool.length c1, .slice o2 k.fs.length c2, .slice o3 k.ms.length c3] 31) = W2 at *
    clear hW2
    go_wp2_with (at_builtin; refine zJp rfl _ _ rfl w.heap.size _ _ _ HO2.out rfl rfl hal HB2.out.size ?_; intro ao3 cap3 w3 ho3 hb3 hk3; have HO3 := D.zA0 ho3; have HB3 := D.zA0 (HB2.out.trans hb3); have x1 := zRn (hk3 _ _ _ (by decide) HX.out) 1 rfl; clear ho3 hb3 hk3)
    go_roundg (klin R k.sup).length
    case measure => have := HG.out; simp at this; omega
    case rel => exact ⟨k.sup, acc ++ [k.nm], rfl, HO3.out, HB3.out, by have := HA.out; simpa using this, Nat.le_refl _⟩
theorem trow {w : World} {B n : Nat} {v : Value} {l : List ByteArray} (h : w.ownsRow B 9 1 v n (zB6 l)) (hn : l.length = n) : ∃ ao cap, v = .slice ao n cap ∧ n ≤ cap ∧ cap ≤ maxLen ∧ ∀ (j : Nat) (x : ByteArray), l[j]? = some x → ∃ g, ao = some ⟨g, 0, none⟩ ∧ w.cell? ⟨g, 0 + j, none⟩ = some (.string x) := by
 rcases h.2 with ⟨rfl, h0⟩ | ⟨g, cap, cur, rfl, hB, hg, h1, h2, _⟩
 · subst h0
   exact ⟨none, 0, rfl, Nat.le_refl _, by unfold maxLen; omega, fun j x hj => by rw [List.length_eq_zero_iff.1 hn] at hj; simp at hj⟩
 · refine ⟨_, cap, rfl, h1, h2, fun j x hj => ⟨g, rfl, ?_⟩⟩
   have := h.cells (g := g) rfl j (.string x) (by unfold zB6; rw [List.getElem?_map, hj]; rfl)
   have e : (⟨g, 0, none⟩ : Addr).add j = ⟨g, 0 + j, none⟩ := by unfold Addr.add; split <;> simp_all
   rw [e] at this
   exact this
end Go.Proofs.YtpehimfnkmepnaaGreat.K
namespace Go.Proofs.YtpehimfnkmepnaaGreat.P3
open Go.RowKit
def addZ (l : List CD) (c : CD) : List CD × Int × Int :=
 if zB0 c = true then
  match idxO c l with
  | some k => (l, (k : Int), 0)
  | none => if 256 ≤ l.length then ([], 0, 4) else (l ++ [c], (l.length : Int), 0)
 else ([], 0, 14)
theorem zVq {l : List CD} {c : CD} (h : zB0 c = false) : addZ l c = ([], 0, 14) := by unfold addZ; rw [if_neg (by simp [h])]
theorem zU1 {l : List CD} {c : CD} {k : Nat} (h : zB0 c = true) (hk : idxO c l = some k) : addZ l c = (l, (k : Int), 0) := by unfold addZ; rw [if_pos h, hk]
theorem zSx {l : List CD} {c : CD} (h : zB0 c = true) (hk : idxO c l = none) (hl : 256 ≤ l.length) : addZ l c = ([], 0, 4) := by unfold addZ; rw [if_pos h, hk]; simp [hl]
theorem zSp {l : List CD} {c : CD} (h : zB0 c = true) (hk : idxO c l = none) (hl : ¬ 256 ≤ l.length) : addZ l c = (l ++ [c], (l.length : Int), 0) := by unfold addZ; rw [if_pos h, hk]; simp [hl]
theorem zOc {w : World} {B B' s n : Nat} {e : TypeId} {v : Value} {xs : List Value} (h : w.ownsRow B e s v n xs) (hB : B' ≤ B) : w.ownsRow B' e s v n xs := by
 refine ⟨h.1, ?_⟩
 rcases h.2 with x | ⟨g, cap, cur, e, hb, r⟩
 · exact .inl x
 · exact .inr ⟨g, cap, cur, e, by omega, r⟩
theorem zI2 (w : World) (ty : TypeId) (B : Nat) (v vb : Value) (n : Nat) (xs : List Value) (lb : List CD) (hown : w.ownsRow B 112 5 v n xs) (hv : zEh w vb lb) (hlen : (n + lb.length) * 64 ≤ 140737488355328) (hB : B ≤ w.heap.size) :
 ∃ v' w', (Builtin.append_ #[27, 27] ty #[v, vb]).run Tryz.prog w = .ok v' w' ∧ w'.ownsRow B 112 5 v' (n + lb.length) (xs ++ zAu lb) ∧ w.grownBy w' v.ownBlock ∧ (v'.ownBlock = v.ownBlock ∨ v'.ownBlock = some w.heap.size) := by
 obtain ⟨i0, hi, hz0, hz1, hz2⟩ := info_parts Tryz.info112
 obtain ⟨ao, cap, rfl, hc, hm, _, hl⟩ := hv
 rcases hl with rfl | ⟨g, off, rfl, hl⟩
 · refine ⟨v, w, ?_, by simpa [zAu] using hown, ⟨rfl, rfl, rfl, Nat.le_refl _, fun _ _ _ => rfl⟩, .inl rfl⟩
   rcases hown.2 with ⟨rfl, rfl⟩ | ⟨g, cap, cur, rfl, hbg, hg, hnc, hcm, hcs, htake⟩
   · cases ao <;> simp [Builtin.append_, run_underlying Tryz.underlying27, sizeOf, typeInfo, hi, Builtin.lenOf, Builtin.firstCells, loadCells, loadCellsFrom]
   · cases ao <;> simp [Builtin.append_, run_underlying Tryz.underlying27, sizeOf, typeInfo, hi, Builtin.lenOf, Builtin.firstCells, loadCells, loadCellsFrom, hnc, storeCells]
 · obtain ⟨v', w', hr, ho, hg, _, hat⟩ := run_append_own_at (P := Tryz.prog) w B 27 ty 112 i0 zPq.val 5 64 Tryz.underlying27 hi hz0 hz1 hz2 rfl (by decide) v n xs hown ⟨g, off, none⟩ lb.length cap (zAu lb) (zG2 lb) hl.cells (zJy lb) (by unfold maxLen; omega) (by omega) hB
   exact ⟨v', w', hr, ho, hg, hat⟩
theorem zGm {w : World} {ops : Array Oper} {rest : List Oper} {o : Oper} {a : Act} {Q : Exit → Act → World → Prop} (hgd : o.guard = none) (s x : Operand)
 (ho : o.op = .call { callee := .builtin .append, args := #[s, x], argTypes := #[27, 27] })
 (B : Nat) (v vb : Value) (n : Nat) (xs : List Value) (lb : List CD) (hs : a.eval s = v) (hown : w.ownsRow B 112 5 v n xs) (hx : a.eval x = vb) (hv : zEh w vb lb)
 (hlen : (n + lb.length) * 64 ≤ 140737488355328) (hB : B ≤ w.heap.size)
 (h : ∀ v' w', w'.ownsRow B 112 5 v' (n + lb.length) (xs ++ zAu lb) → w.grownBy w' v.ownBlock → (v'.ownBlock = v.ownBlock ∨ v'.ownBlock = some w.heap.size) → wpList Tryz.prog ops Q rest (a.put o.dst v') w') :
 wpList Tryz.prog ops Q (o :: rest) a w := by
 refine wpList_plain hgd fun K hK => ?_
 obtain ⟨v', w', hr, h2, h3, h4⟩ := zI2 w o.type B v vb n xs lb hown hv hlen hB
 unfold Oper.wp execOp
 simp only [ho, resolve, invoke, builtin, Sem.run_bind, Sem.run_pure, Result.andThen_ok, List.map_toArray, List.map_cons, List.map_nil, hs, hx, hr]
 exact hK _ _ (h v' w' h2 h3 h4)
theorem zO6 (c d : CD) : ceq c d = ceq d c := by
 cases h : ceq c d with
 | true => have := (zMx c d).1 h; subst this; exact h.symm
 | false =>
   cases h2 : ceq d c with
   | true => have := (zMx d c).1 h2; subst this; rw [h] at h2; cases h2
   | false => rfl
theorem zIc (v : Value) (l : List CD) (c : CD) (w : World) (hv : zEh w v l) (hc : c.Small) (hlen : l.length * 64 ≤ 70368744177664) :
 Calls Tryz.prog 165 #[v, c.val] w fun e w' => Below w.heap.size w w' ∧ ∃ v', e = .returned (.tuple #[v', .int .i64 (addZ l c).2.1, .int .i64 (addZ l c).2.2]) ∧ w'.ownsRow w.heap.size 112 5 v' (addZ l c).1.length (zAu (addZ l c).1) := by
 obtain ⟨i0, hi, hz0, hz1, hz2⟩ := info_parts Tryz.info112
 have hbx := zLr w c
 have b1 : Below w.heap.size w (w.alloc (.cells #[.int .i64 c.kind, .int .i32 c.n, .string c.cls, .string c.nm, .string c.dsc] 112)) := (Below.refl _ _).alloc (Nat.le_refl _) _
 have hv1 := hv.below b1
 have HR := fun w => D.zA0 (zK0 c w hc)
 have hz1' : (w.alloc (.cells #[.int .i64 c.kind, .int .i32 c.n, .string c.cls, .string c.nm, .string c.dsc] 112)).heap.size = w.heap.size + 1 := by simp
 cases hr : zB0 c with
 | false =>
   rw [zVq hr]
   rw [hr] at HR
   clear hr
   unfold CD.val at *
   go_enter Tryz.func165, Tryz.ntmps165
   go_wp2_with fail
   refine (HR _).out.mono ?_
   rintro e w2 ⟨rfl, b2⟩
   go_wp2
   go_ret3
   exact ⟨b1.trans (b2.mono (by omega)), _, rfl, World.ownsRow_nil _ _ _ _⟩
 | true =>
   rw [hr] at HR
   have HRT := D.zA0 hr
   have HZ : Hid (addZ l c = addZ l c) := rfl
   generalize hAZ : addZ l c = AZ at *
   have HAZ := D.zA0 hAZ
   have HEQ : Hid (∀ d wx, (binOp .eql 112 d.val c.val).run Tryz.prog wx = .ok (.bool (ceq d c)) wx) := fun d wx => zS0 wx d c
   clear hr hAZ HZ
   obtain ⟨ao, cap, rfl, _, hm, hok, _⟩ := id hv1
   unfold maxLen at hm
   have hcz : Hid (zAu l ++ [.int .i64 c.kind, .int .i32 c.n, .string c.cls, .string c.nm, .string c.dsc] = zAu (l ++ [c])) := by show _ = _; rw [zGv]; rfl
   unfold CD.val at HR HEQ ⊢
   go_enter Tryz.func165, Tryz.ntmps165
   go_wp2_with fail
   refine (HR _).out.mono ?_
   rintro e w2 ⟨rfl, b2⟩
   have hs2 := b2.size
   rw [hz1'] at hs2
   have hv2 := hv1.below b2
   have hbx2 := hbx.below b2
   have B2 := b1.trans (b2.mono (by omega))
   have ba : Below w2.heap.size w2 (w2.alloc (.cells #[] 112)) := (Below.refl _ _).alloc (Nat.le_refl _) _
   have hown0 : (w2.alloc (.cells #[] 112)).ownsRow w2.heap.size 112 5 (.slice (some ⟨w2.heap.size, 0, none⟩) 0 0) 0 [] := World.ownsRow_made w2 #[] 0 (Nat.le_refl _) (by unfold maxLen; omega) rfl
   have hv2a := hv2.below ba
   go_wp2_with (at_builtin; refine zGm rfl _ _ rfl w2.heap.size _ _ _ _ l rfl hown0 rfl hv2a (by omega) (by simp) ?_; intro v3 w3 o3 g3 _)
   rw [Nat.zero_add, List.nil_append] at o3
   have B3 : Below w2.heap.size w2 w3 := ba.grown g3 (by simp) (fun k hk => (hown0.lt k hk).1)
   have z3 := B3.size
   have hv3 := hv2.below B3
   have hbx3 := hbx2.below B3
   have B3w := B2.trans (B3.mono (by omega))
   obtain ⟨ao3, cap3, rfl⟩ := zK4 o3
   clear hbx2 hv2 hv2a hown0 g3 ba hbx hv1 b2 b1
   obtain ⟨_, _, ee, _, _, _, hl⟩ := id hv3
   cases ee
   go_wp2
   go_loopw [8] (fun i wr => ∃ k q : Nat, k ≤ l.length ∧ i = .int .i64 (k : Int) ∧ wr = w3.drewN q ∧ Hid (∀ x ∈ l.take k, ceq c x = false)) (fun i _ => l.length - (intOf i).toNat)
   case atStart => exact ⟨0, 0, by omega, rfl, rfl, fun x hx => by simp at hx⟩
   case round =>
    obtain ⟨k, q, hk, rfl, rfl, HN⟩ := hrel
    by_cases hlt : k < l.length
    · obtain ⟨g, off, rfl, hla⟩ : ∃ g off, ao = some ⟨g, off, none⟩ ∧ zBz w3 g off l := by
       rcases hl with e | h
       · rw [e] at hlt; simp at hlt
       · exact h
      have HL : Hid (l[k]? = some l[k]) := by show _ = _; simp [hlt]
      have hd := hla k l[k] (by simp [hlt])
      have h1 : (k : Int) < (l.length : Int) := by omega
      have he := HEQ.out l[k]
      clear hla hl
      generalize l[k] = d at *
      obtain ⟨d0, d1, d2, d3, d4⟩ := hd
      obtain ⟨c0, c1, c2, c3, c4⟩ := id hbx3
      generalize hcd : ceq d c = b at *
      have HCD := D.zA0 hcd
      clear hcd
      cases b
      · go_wp2
        go_quiet (fail)
        go_wp2
        refine ⟨⟨k + 1, _, by omega, by go_num, rfl, ?_⟩, by simp [intOf]; omega⟩
        intro x hx
        rw [List.take_add_one, HL.out] at hx
        rcases List.mem_append.1 hx with hx | hx
        · exact HN.out x hx
        · simp at hx; subst hx; rw [zO6]; exact HCD.out
      · go_wp2
        go_quiet (fail)
        go_wp2
        go_ret3
        have e : AZ = (l, (k : Int), 0) := by
         rw [← HAZ.out]
         exact zU1 HRT.out (zQj HL.out (by rw [zO6]; exact HCD.out) HN.out)
        rw [e]
        exact ⟨zAe (zAe B3w _) _, _, rfl, zOc o3 (by omega)⟩
    · have h1 : ¬ (k : Int) < (l.length : Int) := by omega
      have HI : Hid (idxO c l = none) := zQf (fun x hx => HN.out x (by rw [List.take_of_length_le (by omega)]; exact hx))
      obtain ⟨c0, c1, c2, c3, c4⟩ := id hbx3
      by_cases h256 : 256 ≤ l.length
      · have h256' : (256 : Int) ≤ (l.length : Int) := by omega
        go_wp2
        go_ret3
        have e : AZ = ([], 0, 4) := by rw [← HAZ.out]; exact zSx HRT.out HI.out h256
        rw [e]
        exact ⟨zAe B3w _, _, rfl, World.ownsRow_nil _ _ _ _⟩
      · have h256' : ¬ (256 : Int) ≤ (l.length : Int) := by omega
        have o3q : (w3.drewN q).ownsRow w2.heap.size 112 5 (.slice ao3 l.length cap3) l.length (zAu l) := o3
        have B3q := zAe B3w q
        have z3q : w2.heap.size ≤ (w3.drewN q).heap.size := z3
        have C3q : CAt (w3.drewN q) w.heap.size 0 c := hbx3.block rfl
        clear c0 c1 c2 c3 c4
        obtain ⟨c0, c1, c2, c3, c4⟩ := id C3q
        generalize w3.drewN q = w4 at *
        go_wp2_with (at_builtin; refine wpList_append_own_at _ rfl _ _ 27 rfl w2.heap.size 112 i0 _ 5 64 Tryz.underlying27 hi hz0 hz1 hz2 rfl (by decide) _ _ _ rfl (o3q.alloc _) _ 1 1 [.int .i64 c.kind, .int .i32 c.n, .string c.cls, .string c.nm, .string c.dsc] rfl rfl ?q1 ?q2 ?q3 ?q4 ?q5 ?q6)
        case q2 => exact ⟨rfl, rfl, rfl, rfl, rfl⟩
        case q3 => unfold maxLen; omega
        case q4 => omega
        case q5 => omega
        intro v5 w5 o5 g5 _ _
        have B5 : Below w.heap.size w w5 := (B3q.alloc (by omega) _).grown g5 (by simp; omega) (fun k hk => by have := (o3q.lt k hk).1; omega)
        have O5 := zOc (B' := w.heap.size) o5 (by omega)
        rw [hcz.out] at O5
        go_wp2
        go_ret3
        have e : AZ = (l ++ [c], (l.length : Int), 0) := by rw [← HAZ.out]; exact zSp HRT.out HI.out h256
        rw [e]
        refine ⟨B5, _, rfl, ?_⟩
        rw [List.length_append]
        exact O5
end Go.Proofs.YtpehimfnkmepnaaGreat.P3
