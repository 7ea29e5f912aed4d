import Derived.Test.YtpehimfnkmepnaaGreatBx23
import Derived.Test.YtpehimfnkmepnaaGreatBx44
set_option maxRecDepth 8000
set_option maxHeartbeats 40000000
namespace Go.Proofs.YtpehimfnkmepnaaGreat.T
open Go.RowKit Q Q.D K
theorem zVw (n : ByteArray) : (⟨#[91]⟩ : ByteArray) ++ (Ty.l n).txt = (Ty.al n).txt := by
 apply zNa
 show ((⟨#[91]⟩ : ByteArray) ++ (Ty.l n).txt).data.toList = _
 rw [ByteArray.data_append]
 simp [Ty.txt, Ty.tb, str]
theorem zT4 (s : ByteArray) (w : World) (hs : s.size ≤ 1073741824) :
 Calls Tryz.prog 79 #[.string s] w fun e w' => e = .returned (.string (Ty.l s).txt) ∧ w' = w := by
 go_enter Tryz.func79, Tryz.ntmps79
 go_wp2
 go_ret
 refine ⟨?_, rfl⟩
 rw [show (Ty.l s).txt = { data := #[76] } ++ s ++ { data := #[59] } from Eq.symm (zSc (s := { data := #[76] } ++ s ++ { data := #[59] }) (l := 76 :: (s.data.toList ++ [59])) (by rw [zH9, zH9]; simp))]
 rfl
def atZ (n : Int) (m : Nat) : Nat := (if n < 0 then -(n + 1) else n).toNat % m
theorem zQ9 (n : Int) (m : Nat) (w : World) (hn : -9223372036854775808 ≤ n) (hn2 : n ≤ 9223372036854775807) (hm : 0 < m) (hm2 : m ≤ 1000000) :
 Calls Tryz.prog 29 #[.int .i64 n, .int .i64 (m : Int)] w fun e w' => e = .returned (.int .i64 (atZ n m : Nat)) ∧ w' = w := by
 have hm0 : ((m : Int) == 0) = false := by rw [beq_eq_false_iff_ne]; omega
 by_cases h : n < 0
 · have e : atZ n m = (-(n + 1)).toNat % m := by unfold atZ; rw [if_pos h]
   go_enter Tryz.func29, Tryz.ntmps29
   have HE := D.zA0 e
   clear e
   go_wp2
   go_ret
   refine ⟨?_, rfl⟩
   obtain ⟨q, hq⟩ := Int.eq_ofNat_of_zero_le (show 0 ≤ -(n + 1) by omega)
   rw [HE.out]
   show Ending.returned (.int .i64 (-(n + 1).tmod (m : Int))) = _
   rw [← Int.neg_tmod, hq, Int.toNat_natCast]
   rfl
 · have e : atZ n m = n.toNat % m := by unfold atZ; rw [if_neg h]
   go_enter Tryz.func29, Tryz.ntmps29
   have HE := D.zA0 e
   have HZ : Hid (((atZ n m : Nat) : Int) = n % (m : Int)) := by
    show _ = _
    rw [e]
    obtain ⟨q, rfl⟩ := Int.eq_ofNat_of_zero_le (show 0 ≤ n by omega)
    rw [Int.toNat_natCast]
    rfl
   clear e
   generalize ((atZ n m : Nat) : Int) = z at *
   go_wp2
   go_ret
   exact ⟨by rw [HZ.out]; rfl, rfl⟩
theorem zFm {w : World} {ops : Array Oper} {rest : List Oper} {o : Oper} {a : Act} {Q : Exit → Act → World → Prop} (hgd : o.guard = none) (s x : Operand)
 (ho : o.op = .call { callee := .builtin .append, args := #[s, x], argTypes := #[47, 47] })
 (B : Nat) (v u : Value) (l ns : List ByteArray) (y : ByteArray) (hown : w.ownsRow B 9 1 v l.length (zB6 l)) (hu : w.ownsRow B 9 1 u ns.length (zB6 ns)) (hne : ∀ k, u.ownBlock = some k → v.ownBlock ≠ some k) (hs : a.eval s = v) (hx : a.eval x = .slice (some ⟨w.heap.size, 0, none⟩) 1 1)
 (hlen : l.length ≤ 1000000) (hB : B ≤ w.heap.size)
 (h : ∀ ao' cap' w', w'.ownsRow B 9 1 (.slice ao' (l.length + 1) cap') (l ++ [y]).length (zB6 (l ++ [y])) → Below B w w' → w'.ownsRow B 9 1 u ns.length (zB6 ns) → (∀ k, u.ownBlock = some k → (Value.slice ao' (l.length + 1) cap').ownBlock ≠ some k) → wpList Tryz.prog ops Q rest (a.put o.dst (.slice ao' (l.length + 1) cap')) w') :
 wpList Tryz.prog ops Q (o :: rest) a (w.alloc (.cells #[.string y] 9)) := by
 obtain ⟨i0, hi, hz0, hz1, hz2⟩ := info_parts Tryz.info9k
 refine wpList_plain hgd fun K hK => ?_
 obtain ⟨v', w', hr, h2, h3, _, h4⟩ := run_append_own_at (P := Tryz.prog) (w.alloc (.cells #[.string y] 9)) B 47 o.type 9 i0 (.string ⟨#[]⟩) 1 16 Tryz.underlying47 hi hz0 hz1 hz2 rfl (by decide) v l.length (zB6 l) (hown.alloc _) ⟨w.heap.size, 0, none⟩ 1 1 [.string y] rfl
  (fun j u hj => by
   match j, hj with
   | 0, hj => simp at hj; subst hj; exact (zCn w _ _).1
   | j + 1, hj => simp at hj) (by simp [Value.oneCell']) (by unfold maxLen; omega) (by omega) (by simp; omega)
 unfold Oper.wp execOp
 simp only [ho, resolve, invoke, builtin, Sem.run_bind, Sem.run_pure, Result.andThen_ok, List.map_toArray, List.map_cons, List.map_nil, hs, hx, hr]
 obtain ⟨g', cap', rfl⟩ := ownsRow_succ h2
 refine hK _ _ (h _ cap' w' ?_ ((((Below.refl B w).alloc hB _)).grown h3 (by simp; omega) (fun k hk => (hown.lt k hk).1)) ?_ (fun k hk => ?_))
 · have e : zB6 (l ++ [y]) = zB6 l ++ [.string y] := by simp [zB6]
   rw [e, List.length_append]
   exact h2
 · refine ⟨hu.1, ?_⟩
   rcases hu.2 with x | ⟨g, cap, cur, rfl, hB', hg, r⟩
   · exact .inl x
   · refine .inr ⟨g, cap, cur, rfl, hB', ?_, r⟩
     have hlt := (Array.getElem?_eq_some_iff.1 hg).1
     rw [h3.block g (by simp; omega) (fun e => hne g rfl e.symm), Below.heap_alloc _ _ _ hlt]
     exact hg
 · rcases h4 with h4 | h4
   · rw [h4]; exact hne k hk
   · rw [h4]
     intro e
     cases e
     have := (hu.lt _ hk).2
     simp at this
     omega
def allT : List ByteArray → Nat → List Ty
 | [], _ => []
 | n :: r, i => .l n :: ((if i % 3 = 0 then [Ty.al n] else []) ++ allT r (i + 1))
def allL (ns : List ByteArray) : List Ty := [.i, .q, .z, .ai] ++ allT ns 0
theorem zIq (n : ByteArray) (r : List ByteArray) (i : Nat) : allT (n :: r) i = .l n :: ((if i % 3 = 0 then [Ty.al n] else []) ++ allT r (i + 1)) := rfl
theorem zOz : ∀ (ns : List ByteArray) (i : Nat) (t : Ty), t ∈ allT ns i → ∃ n ∈ ns, t = .l n ∨ t = .al n
 | [], _, _, h => by simp [allT] at h
 | n :: r, i, t, h => by
   rw [zIq] at h
   rcases List.mem_cons.1 h with h | h
   · exact ⟨n, by simp, .inl h⟩
   · rcases List.mem_append.1 h with h | h
     · split at h
       · simp at h; exact ⟨n, by simp, .inr h⟩
       · simp at h
     · obtain ⟨m, hm, e⟩ := zOz r (i + 1) t h
       exact ⟨m, by simp [hm], e⟩
theorem al_txt (n : ByteArray) : (⟨#[91]⟩ : ByteArray) ++ (Ty.l n).txt = (Ty.al n).txt := zVw n
theorem zVy (w : World) (pk : Nat) (R : List Mem) (mb : Nat) (ao : Option Addr) (c : Nat) (h : KinV w pk R mb ao c) (hR : R.length ≤ 1000) (hN : ∀ m ∈ R, m.k.nm.size ≤ 1000) :
 Calls Tryz.prog 28 #[.pointer (some ⟨pk, 0, none⟩)] w fun e w' => ∃ v, e = .returned v ∧ w'.ownsRow w.heap.size 9 1 v (allL (R.reverse.map fun m => m.k.nm)).length (zB6 ((allL (R.reverse.map fun m => m.k.nm)).map Ty.txt)) ∧ Below w.heap.size w w' := by
 have B1 := D.zA0 (zA6 w (.cells #[.string ⟨#[73]⟩, .string ⟨#[63]⟩, .string ⟨#[48]⟩, .string ⟨#[91, 73]⟩] 9))
 have G := D.zA0 (zSn _ pk R mb ao c (h.below B1.out) hR)
 have HO1 : Hid ((w.alloc (.cells #[.string ⟨#[73]⟩, .string ⟨#[63]⟩, .string ⟨#[48]⟩, .string ⟨#[91, 73]⟩] 9)).ownsRow w.heap.size 9 1 (.slice (some ⟨w.heap.size, 0, none⟩) 4 4) ([⟨#[73]⟩, ⟨#[63]⟩, ⟨#[48]⟩, ⟨#[91, 73]⟩] : List ByteArray).length (zB6 [⟨#[73]⟩, ⟨#[63]⟩, ⟨#[48]⟩, ⟨#[91, 73]⟩])) :=
  ⟨rfl, .inr ⟨w.heap.size, 4, _, rfl, Nat.le_refl _, Blk.new w _ _, Nat.le_refl _, by unfold maxLen; omega, rfl, rfl⟩⟩
 have hns : Hid (∀ n ∈ R.reverse.map (fun m => m.k.nm), n.size ≤ 1000) := fun n hn => by
  obtain ⟨m, hm, rfl⟩ := List.mem_map.1 hn
  exact hN m (List.mem_reverse.1 hm)
 have hlen : (R.reverse.map (fun m => m.k.nm)).length = R.length := by simp
 have hcel : (R.reverse.map fun m => Value.string m.k.nm) = zB6 (R.reverse.map fun m => m.k.nm) := by simp [zB6]
 rw [hcel, ← hlen] at G
 rw [← hlen] at hR
 generalize R.reverse.map (fun m => m.k.nm) = NS at *
 clear hcel hlen hN h
 have HL : Hid (([⟨#[73]⟩, ⟨#[63]⟩, ⟨#[48]⟩, ⟨#[91, 73]⟩] : List ByteArray) ++ (allT (NS.drop 0) 0).map Ty.txt = (allL NS).map Ty.txt) := rfl
 have hll : (allL NS).length = ((allL NS).map Ty.txt).length := by simp
 rw [hll]
 generalize (allL NS).map Ty.txt = TG at *
 clear hll
 go_enter Tryz.func28, Tryz.ntmps28
 go_upto_region 3 with (go_at_call 16; refine G.out.mono ?_; rintro e w1 ⟨hb1, vn, rfl, hn⟩; have HB1 := D.zA0 hb1; have HN1 := D.zA0 hn; clear hb1 hn G)
 have HO2 := D.zA0 (ownB HO1.out HB1.out)
 have HBw := D.zA0 (next B1.out HB1.out)
 have HNe : Hid (∀ k, vn.ownBlock = some k → (Value.slice (some ⟨w.heap.size, 0, none⟩) 4 4).ownBlock ≠ some k) := fun k hk e => by
  cases e
  have := (HN1.out.lt _ hk).1
  simp at this
  omega
 have HN2 : Hid (w1.ownsRow w.heap.size 9 1 vn NS.length (zB6 NS)) := by
  refine ⟨HN1.out.1, ?_⟩
  rcases HN1.out.2 with x | ⟨g, cap, cur, e, hB, r⟩
  · exact .inl x
  · exact .inr ⟨g, cap, cur, e, Nat.le_trans B1.out.size hB, r⟩
 clear HN1 HO1 B1 HB1
 obtain ⟨an, cn, rfl, hc1, hm1, hrow⟩ := trow HN2.out rfl
 clear hrow
 unfold maxLen at hm1
 go_wp2_with fail
 go_loopw [3, 5] (fun out i wr => ∃ (k : Nat) (acc : List ByteArray), i = .int .i64 (k : Int) ∧ k ≤ NS.length ∧ acc.length ≤ 4 + 2 * k ∧ wr.ownsRow w.heap.size 9 1 out acc.length (zB6 acc) ∧ wr.ownsRow w.heap.size 9 1 (.slice an NS.length cn) NS.length (zB6 NS) ∧ (∀ k, (Value.slice an NS.length cn).ownBlock = some k → out.ownBlock ≠ some k) ∧ Below w.heap.size w wr ∧ acc ++ (allT (NS.drop k) k).map Ty.txt = TG) (fun _ i _ => NS.length - (intOf i).toNat)
 case atStart => exact ⟨0, _, rfl, Nat.zero_le _, by simp, HO2.out, HN2.out, HNe.out, HBw.out, HL.out⟩
 case round =>
  clear HO2 HN2 HNe HBw HL
  obtain ⟨k, acc, rfl, hk, hacc, ho, hn, hne, hb, hE⟩ := hrel
  have HO := D.zA0 ho
  have HN := D.zA0 hn
  have HP := D.zA0 hne
  have HB := D.zA0 hb
  have HE := D.zA0 hE
  clear ho hn hne hb hE
  by_cases hlt : k < NS.length
  · have hlt' : (k : Int) < (NS.length : Int) := by omega
    obtain ⟨n, hn⟩ : ∃ n, NS[k]? = some n := ⟨NS[k], List.getElem?_eq_getElem hlt⟩
    have hsz := hns.out n (List.mem_of_getElem? hn)
    have GR := D.zA0 (fun W => zT4 n W (by omega))
    have hd : NS.drop k = n :: NS.drop (k + 1) := by
     rw [List.getElem?_eq_getElem hlt] at hn
     cases hn
     exact List.drop_eq_getElem_cons hlt
    rw [hd, zIq] at HE
    obtain ⟨_, _, e1, _, _, hrow⟩ := trow HN.out rfl
    cases e1
    obtain ⟨g, rfl, c0⟩ := hrow k n hn
    rw [Nat.zero_add] at c0
    have HX := D.zA0 hn
    have hal : acc.length ≤ 1000000 := by omega
    clear hrow hd hn
    go_upto_region 7 with (first
     | (go_at_call 79; refine (GR.out _).mono ?_; rintro e w' ⟨rfl, hww⟩; cases hww)
     | (at_builtin; refine zFm rfl _ _ rfl w.heap.size _ _ _ NS _ HO.out HN.out HP.out rfl rfl hal HB.out.size ?_; intro ao3 cap3 w3 ho3 hb3 hn3 hp3; have HO3 := D.zA0 ho3; have HB3 := D.zA0 (HB.out.trans hb3); have HN3 := D.zA0 hn3; have HP3 := D.zA0 hp3; clear ho3 hb3 hn3 hp3 c0))
    clear HO HB HN HP
    by_cases h3 : k % 3 = 0
    · rw [if_pos h3] at HE
      have h3i : (k : Int) % 3 = 0 := by omega
      obtain ⟨_, _, e1, _, _, hrow⟩ := trow HN3.out rfl
      cases e1
      obtain ⟨g', e2, c0⟩ := hrow k n HX.out
      cases e2
      rw [Nat.zero_add] at c0
      have hts : ¬ 9223372036854775807 < 1 + (Ty.l n).txt.size := by
       have : (Ty.l n).txt.size = n.size + 2 := by
        show (str (76 :: (bsB n ++ [59]))).size = _
        rw [zDk, zA7 n]
        simp
       omega
      have hl3 : (acc ++ [(Ty.l n).txt]).length = acc.length + 1 := by simp
      have hal3 : (acc ++ [(Ty.l n).txt]).length ≤ 1000000 := by omega
      rw [hl3] at HO3
      clear hrow
      go_wp2_with (first
       | (go_at_call 79; refine (GR.out _).mono ?_; rintro e w' ⟨rfl, hww⟩; cases hww)
       | (at_builtin; refine zFm rfl _ _ rfl w.heap.size _ _ (acc ++ [(Ty.l n).txt]) NS _ (by rw [hl3]; exact HO3.out) HN3.out HP3.out rfl rfl hal3 HB3.out.size ?_; intro ao4 cap4 w4 ho4 hb4 hn4 hp4; have HO4 := D.zA0 ho4; have HB4 := D.zA0 (HB3.out.trans hb4); have HN4 := D.zA0 hn4; have HP4 := D.zA0 hp4; clear ho4 hb4 hn4 hp4 c0))
      rw [hl3, al_txt] at HO4
      rw [hl3] at HP4
      refine ⟨⟨k + 1, acc ++ [(Ty.l n).txt] ++ [(Ty.al n).txt], by go_num, by omega, by simp; omega, HO4.out, HN4.out, HP4.out, HB4.out, ?_⟩, by simp [intOf]; omega⟩
      have := HE.out
      simpa using this
    · rw [if_neg h3] at HE
      have h3i : ¬ (k : Int) % 3 = 0 := by omega
      go_wp2_with fail
      refine ⟨⟨k + 1, acc ++ [(Ty.l n).txt], by go_num, by omega, by simp; omega, HO3.out, HN3.out, HP3.out, HB3.out, ?_⟩, by simp [intOf]; omega⟩
      have := HE.out
      simpa using this
  · have hlt' : ¬ (k : Int) < (NS.length : Int) := by omega
    obtain rfl : k = NS.length := by omega
    rw [List.drop_length] at HE
    go_wp2_with fail
    go_ret
    have e1 := HE.out
    simp only [allT, List.map_nil, List.append_nil] at e1
    exact ⟨_, rfl, by rw [← e1]; exact HO.out, HB.out⟩
theorem zOn {w : World} {B : Nat} {v : Value} {l : List ByteArray} (h : w.ownsRow B 9 1 v l.length (l.map Value.string)) : ∃ ao cap, v = .slice ao l.length cap ∧ ∀ (j : Nat) x, l[j]? = some x → ∃ g, ao = some ⟨g, 0, none⟩ ∧ g < w.heap.size ∧ w.cell? ⟨g, j, none⟩ = some (.string x) := by
 by_cases h0 : l.length = 0
 · rcases h.2 with ⟨rfl, _⟩ | ⟨g, cap, cur, rfl, _⟩
   · exact ⟨none, 0, by rw [h0], fun j x hj => by have := (List.getElem?_eq_some_iff.1 hj).1; omega⟩
   · exact ⟨_, cap, rfl, fun j x hj => by have := (List.getElem?_eq_some_iff.1 hj).1; omega⟩
 · obtain ⟨g, cap, rfl⟩ := zBs h (by omega)
   refine ⟨_, cap, rfl, fun j x hj => ⟨g, rfl, (h.lt g rfl).2, ?_⟩⟩
   have hlt := (List.getElem?_eq_some_iff.1 hj).1
   rw [h.cellAt j (by omega), List.getElem?_map, hj]
   rfl
theorem zMl {α : Type} {p : α → Bool} : ∀ {l : List α}, (∀ (j : Nat) x, l[j]? = some x → p x = false) → l.find? p = none
 | [], _ => rfl
 | y :: l, h => by
   rw [List.find?_cons_of_neg (by rw [h 0 y rfl]; simp)]
   exact zMl (fun j x hj => h (j + 1) x hj)
theorem zHq {α : Type} {p : α → Bool} : ∀ {l : List α} (i : Nat) (y : α), l[i]? = some y → p y = true → (∀ (j : Nat) x, j < i → l[j]? = some x → p x = false) → l.find? p = some y
 | [], i, y, h, _, _ => by simp at h
 | z :: l, 0, y, h, hp, _ => by simp at h; subst h; exact List.find?_cons_of_pos hp
 | z :: l, i + 1, y, h, hp, hn => by
   rw [List.find?_cons_of_neg (by rw [hn 0 z (by omega) rfl]; simp)]
   exact zHq i y (by simpa using h) hp (fun j x hj hx => hn (j + 1) x (by omega) hx)
def zUk (R : List KD) (b : ByteArray) (l : List ByteArray) : ByteArray := match l.find? (fun s => ksub R b s) with | some s => s | none => zAc
theorem near_l (R : List KD) (a b : ByteArray) : zHz R a b = zUk R b ((klin R a).map KD.nm) := by
 unfold zHz zUk
 rw [List.find?_map]
 cases h : (klin R a).find? (fun k => ksub R b k.nm) with
 | none => rw [show List.find? ((fun s => ksub R b s) ∘ KD.nm) (klin R a) = none from h]; rfl
 | some k => rw [show List.find? ((fun s => ksub R b s) ∘ KD.nm) (klin R a) = some k from h]; rfl
theorem zLa : ∀ (R : List KD) (s : ByteArray), (klin R s).length ≤ R.length
 | [], _ => by simp [klin]
 | x :: R, s => by
   unfold klin
   split
   · have := zLa R x.sup
     simp only [List.length_cons]; omega
   · have := zLa R s
     simp only [List.length_cons]; omega
theorem zTu : str (zFu (⟨#[76, 79, 98, 106, 101, 99, 116, 59]⟩ : ByteArray).data.toList) = zAc := by kernel_rfl
theorem near_t (w : World) (pk : Nat) (R : List Mem) (mb : Nat) (ao : Option Addr) (c : Nat) (h : KinV w pk R mb ao c) (hR : R.length ≤ 1000000) (a b : ByteArray) :
 Calls Tryz.prog 76 #[.pointer (some ⟨pk, 0, none⟩), .string a, .string b] w fun e w' => e = .returned (.string (zHz (R.map Mem.k) a b)) ∧ Below w.heap.size w w' := by
 rw [near_l]
 have HC := D.zA0 (fun W => zBf ⟨#[76, 79, 98, 106, 101, 99, 116, 59]⟩ W (by decide))
 rw [zTu] at HC
 have HL := D.zA0 (zLq w pk R mb ao c h hR a)
 have hLE : zDe (lin R a) = ((klin (R.map Mem.k) a).map KD.nm).map Value.string := by rw [← zM7]; simp [zDe]
 have hLN : (lin R a).length = ((klin (R.map Mem.k) a).map KD.nm).length := by rw [← zM7]; simp
 have hLL : ((klin (R.map Mem.k) a).map KD.nm).length ≤ 1000000 := by have := zLa (R.map Mem.k) a; simp at this ⊢; omega
 rw [hLE, hLN] at HL
 clear hLE hLN
 have HS := D.zA0 (fun W (b' : Below w.heap.size w W) s => zN0 W pk R mb ao c (h.below b') b s)
 have HK : Hid (∀ s, subB R b s = ksub (R.map Mem.k) b s) := fun s => zNf R b s
 generalize (klin (R.map Mem.k) a).map KD.nm = L at *
 go_enter Tryz.func76, Tryz.ntmps76
 go_wp2_with fail
 refine HL.out.mono ?_
 rintro e w1 ⟨v1, rfl, ho1, b1⟩
 obtain ⟨ao1, cap1, rfl, hc1⟩ := zOn ho1
 have HC1 := D.zA0 hc1
 clear hc1 ho1 HL
 go_wp2_with fail
 go_loopw [13] (fun iv wr => ∃ i : Nat, iv = .int .i64 (i : Int) ∧ i ≤ L.length ∧ Below w1.heap.size w1 wr ∧ ∀ (j : Nat) x, j < i → L[j]? = some x → ksub (R.map Mem.k) b x = false) (fun iv _ => L.length - (intOf iv).toNat)
 case atStart => exact ⟨0, rfl, Nat.zero_le _, Below.refl _ _, fun j x hj => by omega⟩
 case round =>
  obtain ⟨i, rfl, hi, B, hN⟩ := hrel
  have HN := D.zA0 hN
  clear hN
  by_cases hlt : i < L.length
  · have hlt' : (i : Int) < (L.length : Int) := by omega
    obtain ⟨x, hx⟩ : ∃ x, L[i]? = some x := ⟨_, List.getElem?_eq_getElem hlt⟩
    obtain ⟨g, rfl, hg, hcell⟩ := HC1.out i x hx
    have hcell' : wr.cell? ⟨g, i, none⟩ = some (.string x) := (B.cell (p := ⟨g, i, none⟩) hg).trans hcell
    have HX := D.zA0 hx
    have S1 := D.zA0 (HS.out wr (next b1 B) x)
    rw [HK.out] at S1
    clear hx hcell
    cases hk : ksub (R.map Mem.k) b x
    · rw [hk] at S1
      go_wp2_with fail
      refine S1.out.mono ?_
      rintro e w2 ⟨rfl, b2⟩
      go_wp2_with fail
      go_roundw
      case rel => exact ⟨i + 1, by go_num, by omega, next B b2, fun j y hj hy => by
       by_cases hji : j < i
       · exact HN.out j y hji hy
       · obtain rfl : j = i := by omega
         rw [HX.out] at hy
         cases hy
         exact hk⟩
      case measure => simp [intOf]; omega
    · rw [hk] at S1
      go_wp2_with fail
      refine S1.out.mono ?_
      rintro e w2 ⟨rfl, b2⟩
      go_wp2_with fail
      go_ret
      unfold zUk
      rw [zHq i x HX.out hk (fun j y hj hy => HN.out j y hj hy)]
      exact ⟨rfl, next b1 (next B b2)⟩
  · have hlt' : ¬ (i : Int) < (L.length : Int) := by omega
    go_wp2_with (go_at_call 116; refine (HC.out _).mono ?_; rintro e w' ⟨rfl, hww⟩; cases hww)
    go_ret
    unfold zUk
    rw [zMl (fun j x hj => HN.out j x (by have := (List.getElem?_eq_some_iff.1 hj).1; omega) hj)]
    exact ⟨rfl, next b1 B⟩
theorem zIj {s : ByteArray} (h : zGp s = true) : s.size ≤ 67 := by
 rw [zA7]
 unfold zGp at h
 rcases Bool.or_eq_true_iff.1 h with h | h
 · rw [show s.data.toList = [63] from eq_of_beq h]; simp
 · rcases Bool.or_eq_true_iff.1 h with h | h
   · rw [show s.data.toList = [48] from eq_of_beq h]; simp
   · exact zIw ((zBp _).1 h)
theorem zLb : ∀ {R : List KD} {s : ByteArray} {k : KD}, k ∈ klin R s → k ∈ R
 | [], _, _, h => by simp [klin] at h
 | x :: R, s, m, h => by
   unfold klin at h
   split at h
   · rcases List.mem_cons.1 h with rfl | h
     · simp
     · simp [zLb h]
   · simp [zLb h]
theorem zM6 {R : List KD} (hn : ∀ k ∈ R, k.nm.size ≤ 1000000) (a b : ByteArray) : (zHz R a b).size ≤ 1000000 := by
 unfold zHz
 split
 · rename_i k hk
   exact hn k (zLb (List.mem_of_find?_eq_some hk))
 · decide
theorem zMr {R : List KD} (hn : ∀ k ∈ R, k.nm.size ≤ 1000000) : ∀ (n : Nat) (a b : ByteArray), (zLp R n a b).size ≤ 2000000 + a.size + b.size + n
 | 0, a, b => by unfold zLp; have : (⟨#[]⟩ : ByteArray).size = 0 := rfl; omega
 | n + 1, a, b => by
   unfold zLp
   have h1 : (⟨#[63]⟩ : ByteArray).size = 1 := rfl
   have h2 : (str objL).size = 8 := rfl
   have ih := zMr hn n (eS a) (eS b)
   have e1 := zGg a
   have e2 := zGg b
   repeat' split
   all_goals first
    | omega
    | skip
   · unfold refS
     rw [zDk]
     have := zM6 hn (cS a) (cS b)
     rw [zA7] at this
     have h3 : (bsB (zHz R (cS a) (cS b))).length ≤ 1000000 := this
     simp only [List.length_cons, List.length_append, List.length_nil]
     omega
   · rw [ByteArray.size_append, show (⟨#[91]⟩ : ByteArray).size = 1 from rfl]
     omega
def zR3 (R : List KD) (a b z : ByteArray) : ByteArray := if zF2 R 2 b a then a else if zF2 R 2 a b then b else if zD2 a b [76] then refS (zHz R (cS a) (cS b)) else if zD2 a b [91, 76] then ⟨#[91]⟩ ++ z else if zE2 a && zE2 b then str objL else ⟨#[63]⟩
theorem zS8 (w : World) (pk : Nat) (R : List Mem) (mb : Nat) (ao : Option Addr) (c : Nat) (h : KinV w pk R mb ao c) (a b : ByteArray) (ha : a.size ≤ 9223372036854775000) (hb : b.size ≤ 9223372036854775000) (hk : (zC5 (R.map Mem.k) a && zC5 (R.map Mem.k) b) = false) :
 Calls Tryz.prog 25 #[.pointer (some ⟨pk, 0, none⟩), .string a, .string b] w fun e w' => e = .returned (.string ⟨#[63]⟩) ∧ Below w.heap.size w w' := by
 have C1 := D.zA0 (zFi w pk R mb ao c h a ha)
 cases ka : zC5 (R.map Mem.k) a
 · rw [ka] at C1
   go_enter Tryz.func25, Tryz.ntmps25
   go_wp2_with fail
   refine C1.out.mono ?_; rintro e w' ⟨rfl, b1⟩
   go_wp2_with fail
   go_ret
   exact ⟨rfl, b1⟩
 · rw [ka] at C1 hk
   have kb : zC5 (R.map Mem.k) b = false := by simpa using hk
   go_enter Tryz.func25, Tryz.ntmps25
   go_wp2_with fail
   refine C1.out.mono ?_; rintro e w1 ⟨rfl, b1⟩
   have C2 := D.zA0 (zFi w1 pk R mb ao c (h.below b1) b hb)
   rw [kb] at C2
   go_wp2_with fail
   refine C2.out.mono ?_; rintro e w2 ⟨rfl, b2⟩
   go_wp2_with fail
   go_ret
   exact ⟨rfl, next b1 b2⟩
theorem zOq (w : World) (pk : Nat) (R : List Mem) (mb : Nat) (ao : Option Addr) (c : Nat) (h : KinV w pk R mb ao c) (hR : R.length ≤ 1000000) (hn : ∀ k ∈ R.map Mem.k, k.nm.size ≤ 1000000) (a b : ByteArray) (ka : zC5 (R.map Mem.k) a = true) (kb : zC5 (R.map Mem.k) b = true) (z : ByteArray) (hzs : z.size ≤ 4000000)
 (hz : zD2 a b [91, 76] = true → ∀ W, Below w.heap.size w W → Calls Tryz.prog 25 #[.pointer (some ⟨pk, 0, none⟩), .string (eS a), .string (eS b)] W fun e w' => e = .returned (.string z) ∧ Below W.heap.size W w') :
 Calls Tryz.prog 25 #[.pointer (some ⟨pk, 0, none⟩), .string a, .string b] w fun e w' => e = .returned (.string (zR3 (R.map Mem.k) a b z)) ∧ Below w.heap.size w w' := by
 have sa := zDr ka
 have sb := zDr kb
 have la := zIj sa
 have lb := zIj sb
 have HV := D.zA0 h
 have C1 := D.zA0 (zFi w pk R mb ao c h a (by omega))
 have CK := D.zA0 (fun W (b' : Below w.heap.size w W) => zFi W pk R mb ao c (h.below b') b (by omega))
 have CF := D.zA0 (fun W (b' : Below w.heap.size w W) => zQa W pk R mb ao c (h.below b') b a (by omega) (by omega) sb)
 have CG := D.zA0 (fun W (b' : Below w.heap.size w W) => zQa W pk R mb ao c (h.below b') a b (by omega) (by omega) sa)
 have CB := D.zA0 (fun W => zP6 a b ⟨#[76]⟩ W)
 have CC := D.zA0 (fun W => zP6 a b ⟨#[91, 76]⟩ W)
 have CA := D.zA0 (fun W => zIl a W (by omega))
 have CD' := D.zA0 (fun W => zIl b W (by omega))
 have CN := D.zA0 (fun W (b' : Below w.heap.size w W) => near_t W pk R mb ao c (h.below b') hR (cS a) (cS b))
 have CE := D.zA0 (fun W => zLv a W (by omega))
 have CH := D.zA0 (fun W => zLv b W (by omega))
 have CI := D.zA0 (fun W => zNo a W (by omega))
 have CJ := D.zA0 (fun W => zNo b W (by omega))
 have CR := D.zA0 (fun W => zQv (zHz (R.map Mem.k) (cS a) (cS b)) W (by have := zM6 hn (cS a) (cS b); omega))
 have CZ := D.zA0 hz
 change Hid (∀ W, Calls _ _ _ W fun e w' => e = .returned (.bool (zD2 a b [76])) ∧ w' = W) at CB
 change Hid (∀ W, Calls _ _ _ W fun e w' => e = .returned (.bool (zD2 a b [91, 76])) ∧ w' = W) at CC
 change Hid (∀ W, Calls _ _ _ W fun e w' => e = .returned (.string (refS (zHz (R.map Mem.k) (cS a) (cS b)))) ∧ w' = W) at CR
 rw [ka] at C1
 rw [kb] at CK
 unfold zR3
 have hzs' : (z.size : Int) ≤ 4000000 := by omega
 clear ka kb sa sb la lb h hz hn
 generalize zF2 (R.map Mem.k) 2 b a = x1 at *
 generalize zF2 (R.map Mem.k) 2 a b = x2 at *
 generalize zD2 a b [76] = x3 at *
 generalize zD2 a b [91, 76] = x4 at *
 generalize zE2 a = x5 at *
 generalize zE2 b = x6 at *
 generalize refS (zHz (R.map Mem.k) (cS a) (cS b)) = rn at *
 generalize zHz (R.map Mem.k) (cS a) (cS b) = nn at *
 generalize cS a = ca at *
 generalize cS b = cb at *
 generalize eS a = ea at *
 generalize eS b = eb at *
 go_enter Tryz.func25, Tryz.ntmps25
 go_wp2_with fail
 refine C1.out.mono ?_; rintro e w1 ⟨rfl, b1⟩
 go_wp2_with fail
 refine (CK.out w1 b1).mono ?_; rintro e w2 ⟨rfl, b2⟩
 have B2 := next b1 b2
 clear C1 CK b1 b2
 go_wp2_with fail
 refine (CF.out w2 B2).mono ?_; rintro e w3 ⟨rfl, b3⟩
 cases x1
 case' true =>
  go_wp2_with fail
  go_ret
  exact ⟨rfl, next B2 b3⟩
 have B3 := next B2 b3
 clear CF B2 b3
 go_wp2_with fail
 refine (CG.out w3 B3).mono ?_; rintro e w4 ⟨rfl, b4⟩
 cases x2
 case' true =>
  go_wp2_with fail
  go_ret
  exact ⟨rfl, next B3 b4⟩
 have B4 := next B3 b4
 clear CG B3 b4
 go_wp2_with fail
 refine (CB.out _).mono ?_; rintro e w' ⟨rfl, hww⟩; cases hww
 cases x3
 case' true =>
  go_wp2_with fail
  refine (CA.out _).mono ?_; rintro e w' ⟨rfl, hww⟩; cases hww
  go_wp2_with fail
  refine (CD'.out _).mono ?_; rintro e w' ⟨rfl, hww⟩; cases hww
  go_wp2_with fail
  refine (CN.out _ B4).mono ?_; rintro e w5 ⟨rfl, b5⟩
  go_wp2_with fail
  refine (CR.out _).mono ?_; rintro e w' ⟨rfl, hww⟩; cases hww
  go_wp2_with fail
  go_ret
  exact ⟨rfl, next B4 b5⟩
 go_wp2_with fail
 refine (CC.out _).mono ?_; rintro e w' ⟨rfl, hww⟩; cases hww
 cases x4
 case' true =>
  go_wp2_with fail
  refine (CE.out _).mono ?_; rintro e w' ⟨rfl, hww⟩; cases hww
  go_wp2_with fail
  refine (CH.out _).mono ?_; rintro e w' ⟨rfl, hww⟩; cases hww
  go_wp2_with fail
  refine (CZ.out (by simp) _ B4).mono ?_; rintro e w5 ⟨rfl, b5⟩
  go_wp2_with fail
  go_ret
  exact ⟨rfl, next B4 b5⟩
 go_wp2_with fail
 refine (CI.out _).mono ?_; rintro e w' ⟨rfl, hww⟩; cases hww
 cases x5
 case' false =>
  go_wp2_with fail
  go_ret
  exact ⟨rfl, B4⟩
 go_wp2_with fail
 refine (CJ.out _).mono ?_; rintro e w' ⟨rfl, hww⟩; cases hww
 cases x6
 case' false =>
  go_wp2_with fail
  go_ret
  exact ⟨rfl, B4⟩
 go_wp2_with fail
 go_ret
 exact ⟨rfl, B4⟩
theorem zKc (R : List KD) (n : Nat) (a b : ByteArray) : zLp R (n + 1) a b = if (zC5 R a && zC5 R b) = false then ⟨#[63]⟩ else zR3 R a b (zLp R n (eS a) (eS b)) := rfl
theorem zV4 (w : World) (pk : Nat) (R : List Mem) (mb : Nat) (ao : Option Addr) (c : Nat) (h : KinV w pk R mb ao c) (hR : R.length ≤ 1000000) (hn : ∀ k ∈ R.map Mem.k, k.nm.size ≤ 1000000) (a b : ByteArray) (ha : a.size ≤ 9223372036854775000) (hb : b.size ≤ 9223372036854775000) :
 Calls Tryz.prog 25 #[.pointer (some ⟨pk, 0, none⟩), .string a, .string b] w fun e w' => e = .returned (.string (zUd (R.map Mem.k) a b)) ∧ Below w.heap.size w w' := by
 unfold zUd
 rw [zKc]
 cases hk : (zC5 (R.map Mem.k) a && zC5 (R.map Mem.k) b)
 · rw [if_pos rfl]
   exact zS8 w pk R mb ao c h a b ha hb hk
 · rw [if_neg (by simp)]
   obtain ⟨ka, kb⟩ := Bool.and_eq_true_iff.1 hk
   have la := zIj (zDr ka)
   have lb := zIj (zDr kb)
   have ea := zGg a
   have eb := zGg b
   refine zOq w pk R mb ao c h hR hn a b ka kb _ (Nat.le_trans (zMr hn 1 (eS a) (eS b)) (by omega)) (fun hbo W bW => ?_)
   have h2 : zD2 (eS a) (eS b) [91, 76] = false := by
    unfold zD2 at hbo ⊢
    rw [(zUy (zDr ka) (Bool.and_eq_true_iff.1 hbo).1).2]
    rfl
   rw [zKc]
   cases hk2 : (zC5 (R.map Mem.k) (eS a) && zC5 (R.map Mem.k) (eS b))
   · rw [if_pos rfl]
     exact zS8 W pk R mb ao c (h.below bW) _ _ (by omega) (by omega) hk2
   · rw [if_neg (by simp)]
     obtain ⟨ka2, kb2⟩ := Bool.and_eq_true_iff.1 hk2
     exact zOq W pk R mb ao c (h.below bW) hR hn _ _ ka2 kb2 _ (by unfold zLp; decide) (fun e => by rw [h2] at e; cases e)
theorem zNj : ∀ k ∈ zBd.reverse, k.nm.size ≤ 1000000 := by
 intro k hk
 simp only [List.mem_reverse] at hk
 revert k
 decide
theorem ev1 : zP9 zBd.reverse ⟨#[48]⟩ ⟨#[91, 73]⟩ = true := by kernel_rfl
theorem ev2 : zP9 zBd.reverse ⟨#[91, 76, 73, 110, 100, 101, 120, 59]⟩ ⟨#[91, 76, 84, 104, 114, 111, 119, 97, 98, 108, 101, 59]⟩ = true := by kernel_rfl
theorem ev3 : zUd zBd.reverse ⟨#[76, 73, 110, 100, 101, 120, 59]⟩ ⟨#[76, 67, 97, 115, 116, 59]⟩ = ⟨#[76, 84, 104, 114, 111, 119, 97, 98, 108, 101, 59]⟩ := by kernel_rfl
theorem ev4 : zUd zBd.reverse ⟨#[73]⟩ ⟨#[48]⟩ = ⟨#[63]⟩ := by kernel_rfl
theorem ev5 : zC5 zBd.reverse ⟨#[76, 78, 111, 110, 101, 59]⟩ = false := by kernel_rfl
theorem zE1 (w : World) : Calls Tryz.prog 27 #[] w fun e w' => e = .returned (.bool true) ∧ Below w.heap.size w w' := by
 go_enter Tryz.func27, Tryz.ntmps27
 go_wp2_with fail
 refine (zNg w).mono ?_
 rintro e w1 ⟨pk, mb, v, R, rfl, KO, hR, B1⟩
 have hR' : R.map Mem.k = zBd.reverse := by rw [← hR, List.map_reverse, List.reverse_reverse]
 have hlen : R.length ≤ 1000000 := by have := congrArg List.length hR'; rw [List.length_map] at this; rw [this]; decide
 have hn : ∀ k ∈ R.map Mem.k, k.nm.size ≤ 1000000 := by rw [hR']; exact zNj
 obtain ⟨ao, c, hv, V⟩ := KO.view
 have HR := D.zA0 hR'
 have HN := D.zA0 hn
 have V1 := D.zA0 V
 clear KO hR hR' hv V hn
 go_wp2_with fail
 have C1 := D.zA0 (zSl w1 pk R mb ao c V1.out ⟨#[48]⟩ ⟨#[91, 73]⟩ (by decide) (by decide))
 rw [HR.out, ev1] at C1
 refine C1.out.mono ?_; rintro e w2 ⟨rfl, b2⟩
 have B2 := next B1 b2
 have V2 := D.zA0 (V1.out.below b2)
 clear C1 B1 V1 b2
 go_wp2_with fail
 have C2 := D.zA0 (zSl w2 pk R mb ao c V2.out ⟨#[91, 76, 73, 110, 100, 101, 120, 59]⟩ ⟨#[91, 76, 84, 104, 114, 111, 119, 97, 98, 108, 101, 59]⟩ (by decide) (by decide))
 rw [HR.out, ev2] at C2
 refine C2.out.mono ?_; rintro e w3 ⟨rfl, b3⟩
 have B3 := next B2 b3
 have V3 := D.zA0 (V2.out.below b3)
 clear C2 B2 V2 b3
 go_wp2_with fail
 have C3 := D.zA0 (zV4 w3 pk R mb ao c V3.out hlen HN.out ⟨#[76, 73, 110, 100, 101, 120, 59]⟩ ⟨#[76, 67, 97, 115, 116, 59]⟩ (by decide) (by decide))
 rw [HR.out, ev3] at C3
 refine C3.out.mono ?_; rintro e w4 ⟨rfl, b4⟩
 have B4 := next B3 b4
 have V4 := D.zA0 (V3.out.below b4)
 clear C3 B3 V3 b4
 go_wp2_with fail
 have C4 := D.zA0 (zV4 w4 pk R mb ao c V4.out hlen HN.out ⟨#[73]⟩ ⟨#[48]⟩ (by decide) (by decide))
 rw [HR.out, ev4] at C4
 refine C4.out.mono ?_; rintro e w5 ⟨rfl, b5⟩
 have B5 := next B4 b5
 have V5 := D.zA0 (V4.out.below b5)
 clear C4 B4 V4 b5
 go_wp2_with fail
 have C5 := D.zA0 (zFi w5 pk R mb ao c V5.out ⟨#[76, 78, 111, 110, 101, 59]⟩ (by decide))
 rw [HR.out, ev5] at C5
 refine C5.out.mono ?_; rintro e w6 ⟨rfl, b6⟩
 have B6 := next B5 b6
 have V6 := D.zA0 (V5.out.below b6)
 clear C5 B5 V5 b6
 go_wp2_with fail
 go_ret
 exact ⟨rfl, B6⟩
end Go.Proofs.YtpehimfnkmepnaaGreat.T
