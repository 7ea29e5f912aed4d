import Derived.Test.YtpehimfnkmepnaaGreatBy23
import Derived.Test.YtpehimfnkmepnaaGreatBy44
set_option maxRecDepth 8000
set_option maxHeartbeats 40000000
namespace Go.Proofs.YtpehimfnkmepnaaGreat.T
open Go.RowKit Q Q.D K
theorem zQx {R : List KD} {n m : ByteArray} (hw : KWf R) (hn : ∃ k, zAz R n = some k) (hm : ∃ k, zAz R m = some k) : ∃ (j : Nat) (x : KD), (klin R n)[j]? = some x ∧ x.nm = zCx R n m ∧ zCl R m x.nm = true ∧ ∀ (i : Nat) (y : KD), i < j → (klin R n)[i]? = some y → zCl R m y.nm = false := by
 unfold zCx
 obtain ⟨kn, hkn⟩ := hn
 obtain ⟨z, hz, ez⟩ := zGx hw hkn
 cases hf : (klin R n).find? (fun k => ksub R m k.nm) with
 | none =>
   have := List.find?_eq_none.1 hf z (List.mem_of_getLast? hz)
   rw [zHx, ez, zIm hw hm] at this
   exact absurd rfl this
 | some x =>
   obtain ⟨h1, j, hj, hx, h2⟩ := List.find?_eq_some_iff_getElem.1 hf
   refine ⟨j, x, by rw [List.getElem?_eq_getElem hj, hx], rfl, by rw [← zHx]; exact h1, fun i y hi hy => ?_⟩
   have := h2 i hi
   rw [List.getElem?_eq_getElem (by omega)] at hy
   cases hy
   rw [← zHx]
   simpa using this
theorem zNo {R : List KD} {n m : ByteArray} (hw : KWf R) (hn : ∃ k, zAz R n = some k) (hm : ∃ k, zAz R m = some k) : zCl R n (zCx R n m) = true ∧ zCl R m (zCx R n m) = true ∧ ∃ k, zAz R (zCx R n m) = some k := by
 obtain ⟨j, x, h1, h2, h3, _⟩ := zQx hw hn hm
 rw [← h2]
 exact ⟨zR1 (List.mem_of_getElem? h1), h3, x, zH0 hw (List.mem_of_getElem? h1)⟩
theorem zPz {R : List KD} {n m c : ByteArray} (hw : KWf R) (hn : ∃ k, zAz R n = some k) (hm : ∃ k, zAz R m = some k) (h : zCl R n c = true) (g : zCl R m c = true) : zCl R (zCx R n m) c = true := by
 obtain ⟨j, x, h1, h2, h3, h4⟩ := zQx hw hn hm
 obtain ⟨i, y, h5, rfl⟩ := zSy h
 rw [← h2]
 refine zD6.2 ⟨y, ?_, rfl⟩
 rw [zJo hw h1]
 have hij : j ≤ i := by
  apply Nat.le_of_not_lt
  intro hlt
  rw [h4 i y hlt h5] at g
  cases g
 refine List.mem_of_getElem? (i := i - j) ?_
 rw [List.getElem?_drop, show j + (i - j) = i by omega]
 exact h5
def jT (R : List KD) (a b : Ty) : Ty := if fitT R b a then a else if fitT R a b then b else match a, b with
 | .l n, .l m => .l (zCx R n m)
 | .al n, .al m => .al (zCx R n m)
 | a, b => if refT a && refT b then .l zAc else .q
theorem zWk {R : List KD} (hw : KWf R) (a b : Ty) (ha : a.Ok R) (hb : b.Ok R) : fitT R a (jT R a b) = true ∧ fitT R b (jT R a b) = true := by
 unfold jT
 by_cases h1 : fitT R b a = true
 · rw [if_pos h1]; exact ⟨zJh a ha, h1⟩
 · rw [if_neg h1]
   by_cases h2 : fitT R a b = true
   · rw [if_pos h2]; exact ⟨h2, zJh b hb⟩
   · rw [if_neg h2]
     cases a <;> cases b <;> simp [fitT, refT] at h1 h2 ⊢
     all_goals first | exact zIm hw ha.2 | exact zIm hw hb.2 | exact ⟨(zNo hw ha.2 hb.2).1, (zNo hw ha.2 hb.2).2.1⟩
theorem zKu {R : List KD} (hw : KWf R) (a b c : Ty) (ha : a.Ok R) (hb : b.Ok R) (h : fitT R a c = true) (g : fitT R b c = true) : fitT R (jT R a b) c = true := by
 have hO : R ≠ [] → zCl R zAc zAc = true := fun hR => by
  cases R with
  | nil => exact absurd rfl hR
  | cons k o =>
    have := zIm hw ⟨k, zCf rfl⟩
    obtain ⟨x, hx, e⟩ := zD6.1 this
    have hf := zH0 hw hx
    rw [e] at hf
    exact zFk hf
 have hne : ∀ {n : ByteArray}, Nok R n → R ≠ [] := fun hn e => by subst e; obtain ⟨_, k, hk⟩ := hn; simp [zAz] at hk
 unfold jT
 by_cases h1 : fitT R b a = true
 · rw [if_pos h1]; exact h
 · rw [if_neg h1]
   by_cases h2 : fitT R a b = true
   · rw [if_pos h2]; exact g
   · rw [if_neg h2]
     cases a <;> cases b <;> cases c <;> simp [fitT, refT] at h1 h2 h g ⊢
     all_goals first | exact zPz hw ha.2 hb.2 h g | exact h | (subst h; exact hO (hne hb)) | (subst h; exact hO (hne ha)) | (subst g; exact hO (hne hb)) | (subst g; exact hO (hne ha))
theorem zWn {R : List KD} (hw : KWf R) (a b : Ty) (ha : a.Ok R) (hb : b.Ok R) : jT R a b = jT R b a := by
 have h1 := zWk hw a b ha hb
 have h2 := zWk hw b a hb ha
 exact zQu hw _ _ (zKu hw a b _ ha hb h2.2 h2.1) (zKu hw b a _ hb ha h1.2 h1.1)
theorem jT_ok {R : List KD} (hw : KWf R) (hN : ∀ k ∈ R, zC8 (bsB k.nm)) (hO : ∃ k, zAz R zAc = some k) (a b : Ty) (ha : a.Ok R) (hb : b.Ok R) : (jT R a b).Ok R := by
 have hn : ∀ {n : ByteArray}, (∃ k, zAz R n = some k) → Nok R n := fun ⟨k, hk⟩ => by
  have := zD8 hk
  exact ⟨by rw [← this.1]; exact hN k this.2, k, hk⟩
 unfold jT
 split
 · exact ha
 · split
   · exact hb
   · cases a <;> cases b <;> first | trivial | exact hn hO | exact hn (zNo hw ha.2 hb.2).2.2
theorem zOz (R : List KD) (k : Nat) (a b : Ty) (ha : zBs R a.txt = true) (hb : zBs R b.txt = true) : zHw R (k + 1) a.txt b.txt = if zEi R 2 b.txt a.txt then a.txt else if zEi R 2 a.txt b.txt then b.txt else if Lib.hasPrefix a.tb [76] && Lib.hasPrefix b.tb [76] then refS (zCx R (cS a.txt) (cS b.txt)) else if Lib.hasPrefix a.tb [91, 76] && Lib.hasPrefix b.tb [91, 76] then ⟨#[91]⟩ ++ zHw R k (eS a.txt) (eS b.txt) else if zDf a.txt && zDf b.txt then str objL else ⟨#[63]⟩ := by
 show (if (zBs R a.txt && zBs R b.txt) = false then _ else _) = _
 rw [ha, hb]
 rfl
theorem zRm (n : ByteArray) : refS n = (Ty.l n).txt := rfl
theorem zVc (R : List KD) (n m : ByteArray) : zCx R (str (bsB n)) (str (bsB m)) = zCx R n m := by rw [show str (bsB n) = n from zB1 n, show str (bsB m) = m from zB1 m]
theorem zRy (n : ByteArray) : (⟨#[91]⟩ : ByteArray) ++ (Ty.l n).txt = (Ty.al n).txt := by
 apply zNg
 show ((⟨#[91]⟩ : ByteArray) ++ (Ty.l n).txt).data.toList = _
 rw [ByteArray.data_append]
 simp [Ty.txt, Ty.tb, str]
theorem join_l {R : List KD} (k : Nat) {n m : ByteArray} (hn : Nok R n) (hm : Nok R m) (h1 : zCl R m n = false) (h2 : zCl R n m = false) : zHw R (k + 1) (Ty.l n).txt (Ty.l m).txt = (Ty.l (zCx R n m)).txt := by
 rw [zOz R k (.l n) (.l m) (zEn (.l n) hn) (zEn (.l m) hm), zH9 (.l m) (.l n) hm hn, zH9 (.l n) (.l m) hn hm]
 show (if zCl R m n = true then _ else if zCl R n m = true then _ else _) = _
 rw [h1, h2, zKq, zKq]
 show refS (zCx R (cS (Ty.l n).txt) (cS (Ty.l m).txt)) = _
 rw [zH6 (R := R) (.l n) hn, zH6 (R := R) (.l m) hm]
 show refS (zCx R (str (bsB n)) (str (bsB m))) = _
 rw [zVc, zRm]
theorem zTt {R : List KD} (a b : Ty) (ha : a.Ok R) (hb : b.Ok R) : zQ0 R a.txt b.txt = (jT R a b).txt := by
 unfold zQ0
 rw [zOz R 1 a b (zEn a ha) (zEn b hb), zH9 b a hb ha, zH9 a b ha hb]
 unfold jT
 by_cases h1 : fitT R b a = true
 · rw [if_pos h1, if_pos h1]
 · rw [if_neg h1, if_neg h1]
   by_cases h2 : fitT R a b = true
   · rw [if_pos h2, if_pos h2]
   · rw [if_neg h2, if_neg h2, zKq, zKq, zKr, zKr, zJ0 a ha, zJ0 b hb]
     cases a <;> cases b <;> first | rfl | skip
     · rename_i n m
       show refS (zCx R (cS (Ty.l n).txt) (cS (Ty.l m).txt)) = _
       rw [zH6 (R := R) (.l n) ha, zH6 (R := R) (.l m) hb]
       show refS (zCx R (str (bsB n)) (str (bsB m))) = _
       rw [zVc, zRm]
     · rename_i n m
       show ⟨#[91]⟩ ++ zHw R 1 (eS (Ty.al n).txt) (eS (Ty.al m).txt) = _
       rw [zM7 (R := R) (.al n) ha, zM7 (R := R) (.al m) hb]
       show ⟨#[91]⟩ ++ zHw R 1 (Ty.l n).txt (Ty.l m).txt = (Ty.al (zCx R n m)).txt
       rw [join_l 0 ha hb (Bool.eq_false_iff.2 h1) (Bool.eq_false_iff.2 h2), zRy]
theorem zUm (s : ByteArray) (w : World) (hs : s.size ≤ 1073741824) :
 Calls Tryz.prog 79 #[.string s] w fun e w' => e = .returned (.string (Ty.l s).txt) ∧ w' = w := by
 go_enter Tryz.func79, Tryz.ntmps79
 go_wp2
 go_ret
 refine ⟨?_, rfl⟩
 rw [show (Ty.l s).txt = { data := #[76] } ++ s ++ { data := #[59] } from Eq.symm (zSd (s := { data := #[76] } ++ s ++ { data := #[59] }) (l := 76 :: (s.data.toList ++ [59])) (by rw [zHj, zHj]; simp))]
 rfl
def atZ (n : Int) (m : Nat) : Nat := (if n < 0 then -(n + 1) else n).toNat % m
theorem zUz (n : Int) (m : Nat) (w : World) (hn : -9223372036854775808 ≤ n) (hn2 : n ≤ 9223372036854775807) (hm : 0 < m) (hm2 : m ≤ 1000000) :
 Calls Tryz.prog 29 #[.int .i64 n, .int .i64 (m : Int)] w fun e w' => e = .returned (.int .i64 (atZ n m : Nat)) ∧ w' = w := by
 have hm0 : ((m : Int) == 0) = false := by rw [beq_eq_false_iff_ne]; omega
 by_cases h : n < 0
 · have e : atZ n m = (-(n + 1)).toNat % m := by unfold atZ; rw [if_pos h]
   go_enter Tryz.func29, Tryz.ntmps29
   have HE := D.zA0 e
   clear e
   go_wp2
   go_ret
   refine ⟨?_, rfl⟩
   obtain ⟨q, hq⟩ := Int.eq_ofNat_of_zero_le (show 0 ≤ -(n + 1) by omega)
   rw [HE.out]
   show Ending.returned (.int .i64 (-(n + 1).tmod (m : Int))) = _
   rw [← Int.neg_tmod, hq, Int.toNat_natCast]
   rfl
 · have e : atZ n m = n.toNat % m := by unfold atZ; rw [if_neg h]
   go_enter Tryz.func29, Tryz.ntmps29
   have HE := D.zA0 e
   have HZ : Hid (((atZ n m : Nat) : Int) = n % (m : Int)) := by
    show _ = _
    rw [e]
    obtain ⟨q, rfl⟩ := Int.eq_ofNat_of_zero_le (show 0 ≤ n by omega)
    rw [Int.toNat_natCast]
    rfl
   clear e
   generalize ((atZ n m : Nat) : Int) = z at *
   go_wp2
   go_ret
   exact ⟨by rw [HZ.out]; rfl, rfl⟩
theorem zFx {w : World} {ops : Array Oper} {rest : List Oper} {o : Oper} {a : Act} {Q : Exit → Act → World → Prop} (hgd : o.guard = none) (s x : Operand)
 (ho : o.op = .call { callee := .builtin .append, args := #[s, x], argTypes := #[47, 47] })
 (B : Nat) (v u : Value) (l ns : List ByteArray) (y : ByteArray) (hown : w.ownsRow B 9 1 v l.length (zB7 l)) (hu : w.ownsRow B 9 1 u ns.length (zB7 ns)) (hne : ∀ k, u.ownBlock = some k → v.ownBlock ≠ some k) (hs : a.eval s = v) (hx : a.eval x = .slice (some ⟨w.heap.size, 0, none⟩) 1 1)
 (hlen : l.length ≤ 1000000) (hB : B ≤ w.heap.size)
 (h : ∀ ao' cap' w', w'.ownsRow B 9 1 (.slice ao' (l.length + 1) cap') (l ++ [y]).length (zB7 (l ++ [y])) → Below B w w' → w'.ownsRow B 9 1 u ns.length (zB7 ns) → (∀ k, u.ownBlock = some k → (Value.slice ao' (l.length + 1) cap').ownBlock ≠ some k) → wpList Tryz.prog ops Q rest (a.put o.dst (.slice ao' (l.length + 1) cap')) w') :
 wpList Tryz.prog ops Q (o :: rest) a (w.alloc (.cells #[.string y] 9)) := by
 obtain ⟨i0, hi, hz0, hz1, hz2⟩ := info_parts Tryz.info9k
 refine wpList_plain hgd fun K hK => ?_
 obtain ⟨v', w', hr, h2, h3, _, h4⟩ := run_append_own_at (P := Tryz.prog) (w.alloc (.cells #[.string y] 9)) B 47 o.type 9 i0 (.string ⟨#[]⟩) 1 16 Tryz.underlying47 hi hz0 hz1 hz2 rfl (by decide) v l.length (zB7 l) (hown.alloc _) ⟨w.heap.size, 0, none⟩ 1 1 [.string y] rfl
  (fun j u hj => by
   match j, hj with
   | 0, hj => simp at hj; subst hj; exact (zCo w _ _).1
   | j + 1, hj => simp at hj) (by simp [Value.oneCell']) (by unfold maxLen; omega) (by omega) (by simp; omega)
 unfold Oper.wp execOp
 simp only [ho, resolve, invoke, builtin, Sem.run_bind, Sem.run_pure, Result.andThen_ok, List.map_toArray, List.map_cons, List.map_nil, hs, hx, hr]
 obtain ⟨g', cap', rfl⟩ := ownsRow_succ h2
 refine hK _ _ (h _ cap' w' ?_ ((((Below.refl B w).alloc hB _)).grown h3 (by simp; omega) (fun k hk => (hown.lt k hk).1)) ?_ (fun k hk => ?_))
 · have e : zB7 (l ++ [y]) = zB7 l ++ [.string y] := by simp [zB7]
   rw [e, List.length_append]
   exact h2
 · refine ⟨hu.1, ?_⟩
   rcases hu.2 with x | ⟨g, cap, cur, rfl, hB', hg, r⟩
   · exact .inl x
   · refine .inr ⟨g, cap, cur, rfl, hB', ?_, r⟩
     have hlt := (Array.getElem?_eq_some_iff.1 hg).1
     rw [h3.block g (by simp; omega) (fun e => hne g rfl e.symm), Below.heap_alloc _ _ _ hlt]
     exact hg
 · rcases h4 with h4 | h4
   · rw [h4]; exact hne k hk
   · rw [h4]
     intro e
     cases e
     have := (hu.lt _ hk).2
     simp at this
     omega
def allT : List ByteArray → Nat → List Ty
 | [], _ => []
 | n :: r, i => .l n :: ((if i % 3 = 0 then [Ty.al n] else []) ++ allT r (i + 1))
def allL (ns : List ByteArray) : List Ty := [.i, .q, .z, .ai] ++ allT ns 0
theorem zJa (n : ByteArray) (r : List ByteArray) (i : Nat) : allT (n :: r) i = .l n :: ((if i % 3 = 0 then [Ty.al n] else []) ++ allT r (i + 1)) := rfl
theorem zOn : ∀ (ns : List ByteArray) (i : Nat) (t : Ty), t ∈ allT ns i → ∃ n ∈ ns, t = .l n ∨ t = .al n
 | [], _, _, h => by simp [allT] at h
 | n :: r, i, t, h => by
   rw [zJa] at h
   rcases List.mem_cons.1 h with h | h
   · exact ⟨n, by simp, .inl h⟩
   · rcases List.mem_append.1 h with h | h
     · split at h
       · simp at h; exact ⟨n, by simp, .inr h⟩
       · simp at h
     · obtain ⟨m, hm, e⟩ := zOn r (i + 1) t h
       exact ⟨m, by simp [hm], e⟩
theorem al_txt (n : ByteArray) : (⟨#[91]⟩ : ByteArray) ++ (Ty.l n).txt = (Ty.al n).txt := zRy n
theorem zVu (w : World) (pk : Nat) (R : List Mem) (mb : Nat) (ao : Option Addr) (c : Nat) (h : KinV w pk R mb ao c) (hR : R.length ≤ 1000) (hN : ∀ m ∈ R, m.k.nm.size ≤ 1000) :
 Calls Tryz.prog 28 #[.pointer (some ⟨pk, 0, none⟩)] w fun e w' => ∃ v, e = .returned v ∧ w'.ownsRow w.heap.size 9 1 v (allL (R.reverse.map fun m => m.k.nm)).length (zB7 ((allL (R.reverse.map fun m => m.k.nm)).map Ty.txt)) ∧ Below w.heap.size w w' := by
 have B1 := D.zA0 (zA6 w (.cells #[.string ⟨#[73]⟩, .string ⟨#[63]⟩, .string ⟨#[48]⟩, .string ⟨#[91, 73]⟩] 9))
 have G := D.zA0 (zQl _ pk R mb ao c (h.below B1.out) hR)
 have HO1 : Hid ((w.alloc (.cells #[.string ⟨#[73]⟩, .string ⟨#[63]⟩, .string ⟨#[48]⟩, .string ⟨#[91, 73]⟩] 9)).ownsRow w.heap.size 9 1 (.slice (some ⟨w.heap.size, 0, none⟩) 4 4) ([⟨#[73]⟩, ⟨#[63]⟩, ⟨#[48]⟩, ⟨#[91, 73]⟩] : List ByteArray).length (zB7 [⟨#[73]⟩, ⟨#[63]⟩, ⟨#[48]⟩, ⟨#[91, 73]⟩])) :=
  ⟨rfl, .inr ⟨w.heap.size, 4, _, rfl, Nat.le_refl _, Blk.new w _ _, Nat.le_refl _, by unfold maxLen; omega, rfl, rfl⟩⟩
 have hns : Hid (∀ n ∈ R.reverse.map (fun m => m.k.nm), n.size ≤ 1000) := fun n hn => by
  obtain ⟨m, hm, rfl⟩ := List.mem_map.1 hn
  exact hN m (List.mem_reverse.1 hm)
 have hlen : (R.reverse.map (fun m => m.k.nm)).length = R.length := by simp
 have hcel : (R.reverse.map fun m => Value.string m.k.nm) = zB7 (R.reverse.map fun m => m.k.nm) := by simp [zB7]
 rw [hcel, ← hlen] at G
 rw [← hlen] at hR
 generalize R.reverse.map (fun m => m.k.nm) = NS at *
 clear hcel hlen hN h
 have HL : Hid (([⟨#[73]⟩, ⟨#[63]⟩, ⟨#[48]⟩, ⟨#[91, 73]⟩] : List ByteArray) ++ (allT (NS.drop 0) 0).map Ty.txt = (allL NS).map Ty.txt) := rfl
 have hll : (allL NS).length = ((allL NS).map Ty.txt).length := by simp
 rw [hll]
 generalize (allL NS).map Ty.txt = TG at *
 clear hll
 go_enter Tryz.func28, Tryz.ntmps28
 go_upto_region 3 with (go_at_call 16; refine G.out.mono ?_; rintro e w1 ⟨hb1, vn, rfl, hn⟩; have HB1 := D.zA0 hb1; have HN1 := D.zA0 hn; clear hb1 hn G)
 have HO2 := D.zA0 (ownB HO1.out HB1.out)
 have HBw := D.zA0 (next B1.out HB1.out)
 have HNe : Hid (∀ k, vn.ownBlock = some k → (Value.slice (some ⟨w.heap.size, 0, none⟩) 4 4).ownBlock ≠ some k) := fun k hk e => by
  cases e
  have := (HN1.out.lt _ hk).1
  simp at this
  omega
 have HN2 : Hid (w1.ownsRow w.heap.size 9 1 vn NS.length (zB7 NS)) := by
  refine ⟨HN1.out.1, ?_⟩
  rcases HN1.out.2 with x | ⟨g, cap, cur, e, hB, r⟩
  · exact .inl x
  · exact .inr ⟨g, cap, cur, e, Nat.le_trans B1.out.size hB, r⟩
 clear HN1 HO1 B1 HB1
 obtain ⟨an, cn, rfl, hc1, hm1, hrow⟩ := trow HN2.out rfl
 clear hrow
 unfold maxLen at hm1
 go_wp2_with fail
 go_loopw [3, 5] (fun out i wr => ∃ (k : Nat) (acc : List ByteArray), i = .int .i64 (k : Int) ∧ k ≤ NS.length ∧ acc.length ≤ 4 + 2 * k ∧ wr.ownsRow w.heap.size 9 1 out acc.length (zB7 acc) ∧ wr.ownsRow w.heap.size 9 1 (.slice an NS.length cn) NS.length (zB7 NS) ∧ (∀ k, (Value.slice an NS.length cn).ownBlock = some k → out.ownBlock ≠ some k) ∧ Below w.heap.size w wr ∧ acc ++ (allT (NS.drop k) k).map Ty.txt = TG) (fun _ i _ => NS.length - (intOf i).toNat)
 case atStart => exact ⟨0, _, rfl, Nat.zero_le _, by simp, HO2.out, HN2.out, HNe.out, HBw.out, HL.out⟩
 case round =>
  clear HO2 HN2 HNe HBw HL
  obtain ⟨k, acc, rfl, hk, hacc, ho, hn, hne, hb, hE⟩ := hrel
  have HO := D.zA0 ho
  have HN := D.zA0 hn
  have HP := D.zA0 hne
  have HB := D.zA0 hb
  have HE := D.zA0 hE
  clear ho hn hne hb hE
  by_cases hlt : k < NS.length
  · have hlt' : (k : Int) < (NS.length : Int) := by omega
    obtain ⟨n, hn⟩ : ∃ n, NS[k]? = some n := ⟨NS[k], List.getElem?_eq_getElem hlt⟩
    have hsz := hns.out n (List.mem_of_getElem? hn)
    have GR := D.zA0 (fun W => zUm n W (by omega))
    have hd : NS.drop k = n :: NS.drop (k + 1) := by
     rw [List.getElem?_eq_getElem hlt] at hn
     cases hn
     exact List.drop_eq_getElem_cons hlt
    rw [hd, zJa] at HE
    obtain ⟨_, _, e1, _, _, hrow⟩ := trow HN.out rfl
    cases e1
    obtain ⟨g, rfl, c0⟩ := hrow k n hn
    rw [Nat.zero_add] at c0
    have HX := D.zA0 hn
    have hal : acc.length ≤ 1000000 := by omega
    clear hrow hd hn
    go_upto_region 7 with (first
     | (go_at_call 79; refine (GR.out _).mono ?_; rintro e w' ⟨rfl, hww⟩; cases hww)
     | (at_builtin; refine zFx rfl _ _ rfl w.heap.size _ _ _ NS _ HO.out HN.out HP.out rfl rfl hal HB.out.size ?_; intro ao3 cap3 w3 ho3 hb3 hn3 hp3; have HO3 := D.zA0 ho3; have HB3 := D.zA0 (HB.out.trans hb3); have HN3 := D.zA0 hn3; have HP3 := D.zA0 hp3; clear ho3 hb3 hn3 hp3 c0))
    clear HO HB HN HP
    by_cases h3 : k % 3 = 0
    · rw [if_pos h3] at HE
      have h3i : (k : Int) % 3 = 0 := by omega
      obtain ⟨_, _, e1, _, _, hrow⟩ := trow HN3.out rfl
      cases e1
      obtain ⟨g', e2, c0⟩ := hrow k n HX.out
      cases e2
      rw [Nat.zero_add] at c0
      have hts : ¬ 9223372036854775807 < 1 + (Ty.l n).txt.size := by
       have : (Ty.l n).txt.size = n.size + 2 := by
        show (str (76 :: (bsB n ++ [59]))).size = _
        rw [zDq, zA7 n]
        simp
       omega
      have hl3 : (acc ++ [(Ty.l n).txt]).length = acc.length + 1 := by simp
      have hal3 : (acc ++ [(Ty.l n).txt]).length ≤ 1000000 := by omega
      rw [hl3] at HO3
      clear hrow
      go_wp2_with (first
       | (go_at_call 79; refine (GR.out _).mono ?_; rintro e w' ⟨rfl, hww⟩; cases hww)
       | (at_builtin; refine zFx rfl _ _ rfl w.heap.size _ _ (acc ++ [(Ty.l n).txt]) NS _ (by rw [hl3]; exact HO3.out) HN3.out HP3.out rfl rfl hal3 HB3.out.size ?_; intro ao4 cap4 w4 ho4 hb4 hn4 hp4; have HO4 := D.zA0 ho4; have HB4 := D.zA0 (HB3.out.trans hb4); have HN4 := D.zA0 hn4; have HP4 := D.zA0 hp4; clear ho4 hb4 hn4 hp4 c0))
      rw [hl3, al_txt] at HO4
      rw [hl3] at HP4
      refine ⟨⟨k + 1, acc ++ [(Ty.l n).txt] ++ [(Ty.al n).txt], by go_num, by omega, by simp; omega, HO4.out, HN4.out, HP4.out, HB4.out, ?_⟩, by simp [intOf]; omega⟩
      have := HE.out
      simpa using this
    · rw [if_neg h3] at HE
      have h3i : ¬ (k : Int) % 3 = 0 := by omega
      go_wp2_with fail
      refine ⟨⟨k + 1, acc ++ [(Ty.l n).txt], by go_num, by omega, by simp; omega, HO3.out, HN3.out, HP3.out, HB3.out, ?_⟩, by simp [intOf]; omega⟩
      have := HE.out
      simpa using this
  · have hlt' : ¬ (k : Int) < (NS.length : Int) := by omega
    obtain rfl : k = NS.length := by omega
    rw [List.drop_length] at HE
    go_wp2_with fail
    go_ret
    have e1 := HE.out
    simp only [allT, List.map_nil, List.append_nil] at e1
    exact ⟨_, rfl, by rw [← e1]; exact HO.out, HB.out⟩
theorem zP6 {w : World} {B : Nat} {v : Value} {l : List ByteArray} (h : w.ownsRow B 9 1 v l.length (l.map Value.string)) : ∃ ao cap, v = .slice ao l.length cap ∧ ∀ (j : Nat) x, l[j]? = some x → ∃ g, ao = some ⟨g, 0, none⟩ ∧ g < w.heap.size ∧ w.cell? ⟨g, j, none⟩ = some (.string x) := by
 by_cases h0 : l.length = 0
 · rcases h.2 with ⟨rfl, _⟩ | ⟨g, cap, cur, rfl, _⟩
   · exact ⟨none, 0, by rw [h0], fun j x hj => by have := (List.getElem?_eq_some_iff.1 hj).1; omega⟩
   · exact ⟨_, cap, rfl, fun j x hj => by have := (List.getElem?_eq_some_iff.1 hj).1; omega⟩
 · obtain ⟨g, cap, rfl⟩ := zBt h (by omega)
   refine ⟨_, cap, rfl, fun j x hj => ⟨g, rfl, (h.lt g rfl).2, ?_⟩⟩
   have hlt := (List.getElem?_eq_some_iff.1 hj).1
   rw [h.cellAt j (by omega), List.getElem?_map, hj]
   rfl
theorem zN0 {α : Type} {p : α → Bool} : ∀ {l : List α}, (∀ (j : Nat) x, l[j]? = some x → p x = false) → l.find? p = none
 | [], _ => rfl
 | y :: l, h => by
   rw [List.find?_cons_of_neg (by rw [h 0 y rfl]; simp)]
   exact zN0 (fun j x hj => h (j + 1) x hj)
theorem zHs {α : Type} {p : α → Bool} : ∀ {l : List α} (i : Nat) (y : α), l[i]? = some y → p y = true → (∀ (j : Nat) x, j < i → l[j]? = some x → p x = false) → l.find? p = some y
 | [], i, y, h, _, _ => by simp at h
 | z :: l, 0, y, h, hp, _ => by simp at h; subst h; exact List.find?_cons_of_pos hp
 | z :: l, i + 1, y, h, hp, hn => by
   rw [List.find?_cons_of_neg (by rw [hn 0 z (by omega) rfl]; simp)]
   exact zHs i y (by simpa using h) hp (fun j x hj hx => hn (j + 1) x (by omega) hx)
def zU0 (R : List KD) (b : ByteArray) (l : List ByteArray) : ByteArray := match l.find? (fun s => ksub R b s) with | some s => s | none => zAc
theorem near_l (R : List KD) (a b : ByteArray) : zCx R a b = zU0 R b ((klin R a).map KD.nm) := by
 unfold zCx zU0
 rw [List.find?_map]
 cases h : (klin R a).find? (fun k => ksub R b k.nm) with
 | none => rw [show List.find? ((fun s => ksub R b s) ∘ KD.nm) (klin R a) = none from h]; rfl
 | some k => rw [show List.find? ((fun s => ksub R b s) ∘ KD.nm) (klin R a) = some k from h]; rfl
theorem zLa : ∀ (R : List KD) (s : ByteArray), (klin R s).length ≤ R.length
 | [], _ => by simp [klin]
 | x :: R, s => by
   unfold klin
   split
   · have := zLa R x.sup
     simp only [List.length_cons]; omega
   · have := zLa R s
     simp only [List.length_cons]; omega
theorem zTs : str (zFq (⟨#[76, 79, 98, 106, 101, 99, 116, 59]⟩ : ByteArray).data.toList) = zAc := by kernel_rfl
theorem near_t (w : World) (pk : Nat) (R : List Mem) (mb : Nat) (ao : Option Addr) (c : Nat) (h : KinV w pk R mb ao c) (hR : R.length ≤ 1000000) (a b : ByteArray) :
 Calls Tryz.prog 76 #[.pointer (some ⟨pk, 0, none⟩), .string a, .string b] w fun e w' => e = .returned (.string (zCx (R.map Mem.k) a b)) ∧ Below w.heap.size w w' := by
 rw [near_l]
 have HC := D.zA0 (fun W => zBb ⟨#[76, 79, 98, 106, 101, 99, 116, 59]⟩ W (by decide))
 rw [zTs] at HC
 have HL := D.zA0 (zMh w pk R mb ao c h hR a)
 have hLE : zDi (lin R a) = ((klin (R.map Mem.k) a).map KD.nm).map Value.string := by rw [← zLt]; simp [zDi]
 have hLN : (lin R a).length = ((klin (R.map Mem.k) a).map KD.nm).length := by rw [← zLt]; simp
 have hLL : ((klin (R.map Mem.k) a).map KD.nm).length ≤ 1000000 := by have := zLa (R.map Mem.k) a; simp at this ⊢; omega
 rw [hLE, hLN] at HL
 clear hLE hLN
 have HS := D.zA0 (fun W (b' : Below w.heap.size w W) s => zNl W pk R mb ao c (h.below b') b s)
 have HK : Hid (∀ s, subB R b s = ksub (R.map Mem.k) b s) := fun s => zO1 R b s
 generalize (klin (R.map Mem.k) a).map KD.nm = L at *
 go_enter Tryz.func76, Tryz.ntmps76
 go_wp2_with fail
 refine HL.out.mono ?_
 rintro e w1 ⟨v1, rfl, ho1, b1⟩
 obtain ⟨ao1, cap1, rfl, hc1⟩ := zP6 ho1
 have HC1 := D.zA0 hc1
 clear hc1 ho1 HL
 go_wp2_with fail
 go_loopw [13] (fun iv wr => ∃ i : Nat, iv = .int .i64 (i : Int) ∧ i ≤ L.length ∧ Below w1.heap.size w1 wr ∧ ∀ (j : Nat) x, j < i → L[j]? = some x → ksub (R.map Mem.k) b x = false) (fun iv _ => L.length - (intOf iv).toNat)
 case atStart => exact ⟨0, rfl, Nat.zero_le _, Below.refl _ _, fun j x hj => by omega⟩
 case round =>
  obtain ⟨i, rfl, hi, B, hN⟩ := hrel
  have HN := D.zA0 hN
  clear hN
  by_cases hlt : i < L.length
  · have hlt' : (i : Int) < (L.length : Int) := by omega
    obtain ⟨x, hx⟩ : ∃ x, L[i]? = some x := ⟨_, List.getElem?_eq_getElem hlt⟩
    obtain ⟨g, rfl, hg, hcell⟩ := HC1.out i x hx
    have hcell' : wr.cell? ⟨g, i, none⟩ = some (.string x) := (B.cell (p := ⟨g, i, none⟩) hg).trans hcell
    have HX := D.zA0 hx
    have S1 := D.zA0 (HS.out wr (next b1 B) x)
    rw [HK.out] at S1
    clear hx hcell
    cases hk : ksub (R.map Mem.k) b x
    · rw [hk] at S1
      go_wp2_with fail
      refine S1.out.mono ?_
      rintro e w2 ⟨rfl, b2⟩
      go_wp2_with fail
      go_roundw
      case rel => exact ⟨i + 1, by go_num, by omega, next B b2, fun j y hj hy => by
       by_cases hji : j < i
       · exact HN.out j y hji hy
       · obtain rfl : j = i := by omega
         rw [HX.out] at hy
         cases hy
         exact hk⟩
      case measure => simp [intOf]; omega
    · rw [hk] at S1
      go_wp2_with fail
      refine S1.out.mono ?_
      rintro e w2 ⟨rfl, b2⟩
      go_wp2_with fail
      go_ret
      unfold zU0
      rw [zHs i x HX.out hk (fun j y hj hy => HN.out j y hj hy)]
      exact ⟨rfl, next b1 (next B b2)⟩
  · have hlt' : ¬ (i : Int) < (L.length : Int) := by omega
    go_wp2_with (go_at_call 116; refine (HC.out _).mono ?_; rintro e w' ⟨rfl, hww⟩; cases hww)
    go_ret
    unfold zU0
    rw [zN0 (fun j x hj => HN.out j x (by have := (List.getElem?_eq_some_iff.1 hj).1; omega) hj)]
    exact ⟨rfl, next b1 B⟩
theorem zIn {s : ByteArray} (h : zGj s = true) : s.size ≤ 67 := by
 rw [zA7]
 unfold zGj at h
 rcases Bool.or_eq_true_iff.1 h with h | h
 · rw [show s.data.toList = [63] from eq_of_beq h]; simp
 · rcases Bool.or_eq_true_iff.1 h with h | h
   · rw [show s.data.toList = [48] from eq_of_beq h]; simp
   · exact zJk ((zBp _).1 h)
theorem zLh : ∀ {R : List KD} {s : ByteArray} {k : KD}, k ∈ klin R s → k ∈ R
 | [], _, _, h => by simp [klin] at h
 | x :: R, s, m, h => by
   unfold klin at h
   split at h
   · rcases List.mem_cons.1 h with rfl | h
     · simp
     · simp [zLh h]
   · simp [zLh h]
theorem zM8 {R : List KD} (hn : ∀ k ∈ R, k.nm.size ≤ 1000000) (a b : ByteArray) : (zCx R a b).size ≤ 1000000 := by
 unfold zCx
 split
 · rename_i k hk
   exact hn k (zLh (List.mem_of_find?_eq_some hk))
 · decide
theorem zMl {R : List KD} (hn : ∀ k ∈ R, k.nm.size ≤ 1000000) : ∀ (n : Nat) (a b : ByteArray), (zHw R n a b).size ≤ 2000000 + a.size + b.size + n
 | 0, a, b => by unfold zHw; have : (⟨#[]⟩ : ByteArray).size = 0 := rfl; omega
 | n + 1, a, b => by
   unfold zHw
   have h1 : (⟨#[63]⟩ : ByteArray).size = 1 := rfl
   have h2 : (str objL).size = 8 := rfl
   have ih := zMl hn n (eS a) (eS b)
   have e1 := zGg a
   have e2 := zGg b
   repeat' split
   all_goals first
    | omega
    | skip
   · unfold refS
     rw [zDq]
     have := zM8 hn (cS a) (cS b)
     rw [zA7] at this
     have h3 : (bsB (zCx R (cS a) (cS b))).length ≤ 1000000 := this
     simp only [List.length_cons, List.length_append, List.length_nil]
     omega
   · rw [ByteArray.size_append, show (⟨#[91]⟩ : ByteArray).size = 1 from rfl]
     omega
def zR2 (R : List KD) (a b z : ByteArray) : ByteArray := if zEi R 2 b a then a else if zEi R 2 a b then b else if zD7 a b [76] then refS (zCx R (cS a) (cS b)) else if zD7 a b [91, 76] then ⟨#[91]⟩ ++ z else if zDf a && zDf b then str objL else ⟨#[63]⟩
theorem zRo (w : World) (pk : Nat) (R : List Mem) (mb : Nat) (ao : Option Addr) (c : Nat) (h : KinV w pk R mb ao c) (a b : ByteArray) (ha : a.size ≤ 9223372036854775000) (hb : b.size ≤ 9223372036854775000) (hk : (zBs (R.map Mem.k) a && zBs (R.map Mem.k) b) = false) :
 Calls Tryz.prog 25 #[.pointer (some ⟨pk, 0, none⟩), .string a, .string b] w fun e w' => e = .returned (.string ⟨#[63]⟩) ∧ Below w.heap.size w w' := by
 have C1 := D.zA0 (zFs w pk R mb ao c h a ha)
 cases ka : zBs (R.map Mem.k) a
 · rw [ka] at C1
   go_enter Tryz.func25, Tryz.ntmps25
   go_wp2_with fail
   refine C1.out.mono ?_; rintro e w' ⟨rfl, b1⟩
   go_wp2_with fail
   go_ret
   exact ⟨rfl, b1⟩
 · rw [ka] at C1 hk
   have kb : zBs (R.map Mem.k) b = false := by simpa using hk
   go_enter Tryz.func25, Tryz.ntmps25
   go_wp2_with fail
   refine C1.out.mono ?_; rintro e w1 ⟨rfl, b1⟩
   have C2 := D.zA0 (zFs w1 pk R mb ao c (h.below b1) b hb)
   rw [kb] at C2
   go_wp2_with fail
   refine C2.out.mono ?_; rintro e w2 ⟨rfl, b2⟩
   go_wp2_with fail
   go_ret
   exact ⟨rfl, next b1 b2⟩
theorem zOh (w : World) (pk : Nat) (R : List Mem) (mb : Nat) (ao : Option Addr) (c : Nat) (h : KinV w pk R mb ao c) (hR : R.length ≤ 1000000) (hn : ∀ k ∈ R.map Mem.k, k.nm.size ≤ 1000000) (a b : ByteArray) (ka : zBs (R.map Mem.k) a = true) (kb : zBs (R.map Mem.k) b = true) (z : ByteArray) (hzs : z.size ≤ 4000000)
 (hz : zD7 a b [91, 76] = true → ∀ W, Below w.heap.size w W → Calls Tryz.prog 25 #[.pointer (some ⟨pk, 0, none⟩), .string (eS a), .string (eS b)] W fun e w' => e = .returned (.string z) ∧ Below W.heap.size W w') :
 Calls Tryz.prog 25 #[.pointer (some ⟨pk, 0, none⟩), .string a, .string b] w fun e w' => e = .returned (.string (zR2 (R.map Mem.k) a b z)) ∧ Below w.heap.size w w' := by
 have sa := zDu ka
 have sb := zDu kb
 have la := zIn sa
 have lb := zIn sb
 have HV := D.zA0 h
 have C1 := D.zA0 (zFs w pk R mb ao c h a (by omega))
 have CK := D.zA0 (fun W (b' : Below w.heap.size w W) => zFs W pk R mb ao c (h.below b') b (by omega))
 have CF := D.zA0 (fun W (b' : Below w.heap.size w W) => zSu W pk R mb ao c (h.below b') b a (by omega) (by omega) sb)
 have CG := D.zA0 (fun W (b' : Below w.heap.size w W) => zSu W pk R mb ao c (h.below b') a b (by omega) (by omega) sa)
 have CB := D.zA0 (fun W => zPe a b ⟨#[76]⟩ W)
 have CC := D.zA0 (fun W => zPe a b ⟨#[91, 76]⟩ W)
 have CA := D.zA0 (fun W => zJc a W (by omega))
 have CD' := D.zA0 (fun W => zJc b W (by omega))
 have CN := D.zA0 (fun W (b' : Below w.heap.size w W) => near_t W pk R mb ao c (h.below b') hR (cS a) (cS b))
 have CE := D.zA0 (fun W => zMu a W (by omega))
 have CH := D.zA0 (fun W => zMu b W (by omega))
 have CI := D.zA0 (fun W => zN8 a W (by omega))
 have CJ := D.zA0 (fun W => zN8 b W (by omega))
 have CR := D.zA0 (fun W => zRx (zCx (R.map Mem.k) (cS a) (cS b)) W (by have := zM8 hn (cS a) (cS b); omega))
 have CZ := D.zA0 hz
 change Hid (∀ W, Calls _ _ _ W fun e w' => e = .returned (.bool (zD7 a b [76])) ∧ w' = W) at CB
 change Hid (∀ W, Calls _ _ _ W fun e w' => e = .returned (.bool (zD7 a b [91, 76])) ∧ w' = W) at CC
 change Hid (∀ W, Calls _ _ _ W fun e w' => e = .returned (.string (refS (zCx (R.map Mem.k) (cS a) (cS b)))) ∧ w' = W) at CR
 rw [ka] at C1
 rw [kb] at CK
 unfold zR2
 have hzs' : (z.size : Int) ≤ 4000000 := by omega
 clear ka kb sa sb la lb h hz hn
 generalize zEi (R.map Mem.k) 2 b a = x1 at *
 generalize zEi (R.map Mem.k) 2 a b = x2 at *
 generalize zD7 a b [76] = x3 at *
 generalize zD7 a b [91, 76] = x4 at *
 generalize zDf a = x5 at *
 generalize zDf b = x6 at *
 generalize refS (zCx (R.map Mem.k) (cS a) (cS b)) = rn at *
 generalize zCx (R.map Mem.k) (cS a) (cS b) = nn at *
 generalize cS a = ca at *
 generalize cS b = cb at *
 generalize eS a = ea at *
 generalize eS b = eb at *
 go_enter Tryz.func25, Tryz.ntmps25
 go_wp2_with fail
 refine C1.out.mono ?_; rintro e w1 ⟨rfl, b1⟩
 go_wp2_with fail
 refine (CK.out w1 b1).mono ?_; rintro e w2 ⟨rfl, b2⟩
 have B2 := next b1 b2
 clear C1 CK b1 b2
 go_wp2_with fail
 refine (CF.out w2 B2).mono ?_; rintro e w3 ⟨rfl, b3⟩
 cases x1
 case' true =>
  go_wp2_with fail
  go_ret
  exact ⟨rfl, next B2 b3⟩
 have B3 := next B2 b3
 clear CF B2 b3
 go_wp2_with fail
 refine (CG.out w3 B3).mono ?_; rintro e w4 ⟨rfl, b4⟩
 cases x2
 case' true =>
  go_wp2_with fail
  go_ret
  exact ⟨rfl, next B3 b4⟩
 have B4 := next B3 b4
 clear CG B3 b4
 go_wp2_with fail
 refine (CB.out _).mono ?_; rintro e w' ⟨rfl, hww⟩; cases hww
 cases x3
 case' true =>
  go_wp2_with fail
  refine (CA.out _).mono ?_; rintro e w' ⟨rfl, hww⟩; cases hww
  go_wp2_with fail
  refine (CD'.out _).mono ?_; rintro e w' ⟨rfl, hww⟩; cases hww
  go_wp2_with fail
  refine (CN.out _ B4).mono ?_; rintro e w5 ⟨rfl, b5⟩
  go_wp2_with fail
  refine (CR.out _).mono ?_; rintro e w' ⟨rfl, hww⟩; cases hww
  go_wp2_with fail
  go_ret
  exact ⟨rfl, next B4 b5⟩
 go_wp2_with fail
 refine (CC.out _).mono ?_; rintro e w' ⟨rfl, hww⟩; cases hww
 cases x4
 case' true =>
  go_wp2_with fail
  refine (CE.out _).mono ?_; rintro e w' ⟨rfl, hww⟩; cases hww
  go_wp2_with fail
  refine (CH.out _).mono ?_; rintro e w' ⟨rfl, hww⟩; cases hww
  go_wp2_with fail
  refine (CZ.out (by simp) _ B4).mono ?_; rintro e w5 ⟨rfl, b5⟩
  go_wp2_with fail
  go_ret
  exact ⟨rfl, next B4 b5⟩
 go_wp2_with fail
 refine (CI.out _).mono ?_; rintro e w' ⟨rfl, hww⟩; cases hww
 cases x5
 case' false =>
  go_wp2_with fail
  go_ret
  exact ⟨rfl, B4⟩
 go_wp2_with fail
 refine (CJ.out _).mono ?_; rintro e w' ⟨rfl, hww⟩; cases hww
 cases x6
 case' false =>
  go_wp2_with fail
  go_ret
  exact ⟨rfl, B4⟩
 go_wp2_with fail
 go_ret
 exact ⟨rfl, B4⟩
end Go.Proofs.YtpehimfnkmepnaaGreat.T
