import Derived.Test.YtpehimfnkmepnaaGreatBy44
import Derived.Test.YtpehimfnkmepnaaGreatBy41
set_option maxRecDepth 8000
set_option maxHeartbeats 40000000
namespace Go.Proofs.YtpehimfnkmepnaaGreat.Fr
open Go.RowKit Q Q.D K
theorem zU6 {l : Bs} {B : Nat} {e : Ending} {w' : World} {ps : List Bs} {r : Bs} (h : zFb l B e w') (hm : meth l = some (ps, r)) :
 ∃ v, e = .returned (.tuple #[v, .string (str r), .bool true]) ∧ w'.ownsRow B 9 1 v ps.length (zDm ps) := by
 rcases h with ⟨ps', r', v, h1, h2, h3⟩ | ⟨h1, _⟩
 · rw [hm] at h1
   simp only [Option.some.injEq, Prod.mk.injEq] at h1
   obtain ⟨rfl, rfl⟩ := h1
   exact ⟨v, h2, h3⟩
 · rw [hm] at h1; cases h1
theorem zUi {l : Bs} {B : Nat} {e : Ending} {w' : World} (h : zFb l B e w') (hm : meth l = none) :
 e = .returned (.tuple #[.slice none 0 0, .string ⟨#[]⟩, .bool false]) := by
 rcases h with ⟨ps', r', v, h1, h2, h3⟩ | ⟨_, h2⟩
 · rw [hm] at h1; cases h1
 · exact h2
def giv (st : Bool) (cls : ByteArray) (ps : List Bs) : List ByteArray := (if st then [] else [str (76 :: (cls.data.toList ++ [59]))]) ++ ps.map str
def zS0 : ByteArray := ⟨#[63]⟩
def zJq (cls : ByteArray) (ds : ByteArray) (st : Bool) (loc : Int) : Option (List ByteArray) × Int :=
 match meth ds.data.toList with
 | none => (none, 13)
 | some (ps, _) => if ((giv st cls ps).length : Int) > loc ∨ loc > 16 then (none, 19) else (some (giv st cls ps ++ List.replicate (loc.toNat - (giv st cls ps).length) zS0), 0)
def zOr (w : World) (z : Option (List ByteArray) × Int) (e : Ending) (w' : World) : Prop :=
 ∃ v, e = .returned (.tuple #[v, .int .i64 z.2]) ∧ Below w.heap.size w w' ∧ (match z.1 with | none => v = .slice none 0 0 | some l => OwnT w' w.heap.size v l)
theorem zKv {w : World} {B : Nat} {v : Value} {ps : List Bs} (h : w.ownsRow B 9 1 v ps.length (zDm ps)) : OwnT w B v (ps.map str) := by
 unfold OwnT
 rw [List.length_map, show tx (ps.map str) = zDm ps by simp [tx, zDm]]
 exact h
theorem laid1 (w : World) (y : ByteArray) (hy : y.size ≤ 9223372036854775807) : LAt 1 zD4 (w.alloc (.cells #[.string y] 9)) (some ⟨w.heap.size, 0, none⟩) 1 [y] := by
 refine ⟨Nat.le_refl _, by unfold maxLen; omega, fun _ => [.string y], fun _ => ⟨w.heap.size, 0, rfl, by simp, fun j hj i u hu => ?_⟩, fun i x hx => ?_⟩
 · simp at hj
   subst hj
   match i, hu with
   | 0, hu => cases hu; rw [(Blk.new w #[.string y] 9).cell]; rfl
   | i + 1, hu => simp at hu
 · match i, hx with
   | 0, hx => cases hx; exact ⟨rfl, hy⟩
   | i + 1, hx => simp at hx
theorem zSc (w : World) (cls nm ds : ByteArray) (st nat : Bool) (stk loc : Int) (o1 o2 o3 : Option Addr) (m1 c1 m2 c2 m3 c3 : Nat) (hc : cls.size ≤ 1073741824) (hd : ds.size ≤ 9223372036854775807) :
 Calls Tryz.prog 32 #[.string cls, .agg #[.string nm, .string ds, .bool st, .bool nat, .int .i64 stk, .int .i64 loc, .slice o1 m1 c1, .slice o2 m2 c2, .slice o3 m3 c3]] w (zOr w (zJq cls ds st loc)) := by
 have B1 := zA6 w (.cells #[.string nm, .string ds, .bool st, .bool nat, .int .i64 stk, .int .i64 loc, .slice o1 m1 c1, .slice o2 m2 c2, .slice o3 m3 c3] 39)
 have X1 := Blk.new w #[.string nm, .string ds, .bool st, .bool nat, .int .i64 stk, .int .i64 loc, .slice o1 m1 c1, .slice o2 m2 c2, .slice o3 m3 c3] 39
 have HM := D.zA0 (zAk ds (w.alloc (.cells #[.string nm, .string ds, .bool st, .bool nat, .int .i64 stk, .int .i64 loc, .slice o1 m1 c1, .slice o2 m2 c2, .slice o3 m3 c3] 39)) hd)
 go_enter Tryz.func32, Tryz.ntmps32
 go_wp2_with fail
 generalize w.alloc (.cells #[.string nm, .string ds, .bool st, .bool nat, .int .i64 stk, .int .i64 loc, .slice o1 m1 c1, .slice o2 m2 c2, .slice o3 m3 c3] 39) = X at *
 refine HM.out.mono ?_
 rintro e w1 ⟨b1, hans⟩
 have X2 := X1.below b1
 have B2 := B1.trans (b1.mono B1.size)
 have hB2 := B2.size
 have hB1 := B1.size
 cases hm : meth ds.data.toList with
 | none =>
   have e1 := zUi hans hm
   subst e1
   have hz : Hid (zJq cls ds st loc = (none, 13)) := by show _ = _; unfold zJq; rw [hm]
   clear hans HM hm
   go_wp2_with fail
   go_ret2
   rw [hz.out]
   exact ⟨_, rfl, B2, rfl⟩
 | some pr =>
   obtain ⟨ps, r⟩ := pr
   obtain ⟨v1, e1, ow1⟩ := zU6 hans hm
   subst e1
   have hps : ps.length ≤ 8 := (zGw hm).2.2.1
   have ow1' := zKv ow1
   have hXw := b1.size
   have hX0 := X1.lt
   obtain ⟨a1, p1, rfl⟩ := zA4 ow1
   have HO1 := D.zA0 ow1'
   have x2 := X2.cell 2
   have x5 := X2.cell 5
   simp at x2 x5
   have hz : Hid (zJq cls ds st loc = if ((giv st cls ps).length : Int) > loc ∨ loc > 16 then (none, 19) else (some (giv st cls ps ++ List.replicate (loc.toNat - (giv st cls ps).length) zS0), 0)) := by show _ = _; unfold zJq; rw [hm]
   have X2h := D.zA0 X2
   have B2h := D.zA0 B2
   clear hans HM hm ow1 ow1' X2 B2 X1 B1 b1
   generalize zJq cls ds st loc = Z at *
   have key : ∃ G, G = giv st cls ps := ⟨_, rfl⟩
   obtain ⟨G, hG⟩ := key
   have hGl : G.length ≤ 9 := by
    rw [hG]
    unfold giv
    split <;> simp <;> omega
   rw [← hG] at hz
   have HG := D.zA0 hG
   clear hG
   have hXB : Hid (X.heap.size ≤ w1.heap.size) := hXw
   cases st
   case' true =>
    have HOG : Hid (OwnT w1 X.heap.size (.slice a1 ps.length p1) G) := by rw [HG.out]; exact HO1.out
    have hLG : ps.length = G.length := by rw [HG.out]; simp [giv]
    rw [hLG] at HOG ⊢
    clear hLG
    have HBG : Hid (Below X.heap.size w1 w1) := Below.refl _ _
    obtain ⟨W, hW⟩ : ∃ W, W = w1 := ⟨_, rfl⟩
    obtain ⟨aG, haG⟩ : ∃ a, a = a1 := ⟨_, rfl⟩
    obtain ⟨pG, hpG⟩ : ∃ a, a = p1 := ⟨_, rfl⟩
    have X3h := X2h
    have B3h := B2h
    go_upto_region 6 with (fail)
    clear x2 x5 HO1 X2h B2h
    subst hpG haG hW
   case' false =>
    have HR := D.zA0 (zRx cls w1 hc)
    have HI := D.zA0 (zWh w1 X.heap.size _ _ (str (76 :: (cls.data.toList ++ [59]))) HO1.out hXB.out (by simp; omega))
    go_upto_region 6 with (first
     | (go_at_call 75; refine HR.out.mono ?_; rintro e w' ⟨rfl, hww⟩; cases hww)
     | (go_at_call 86; refine HI.out.mono ?_; rintro e W ⟨v3, rfl, ow3, b3⟩; have HO3 := D.zA0 ow3; have HB3 := D.zA0 b3; clear ow3 b3))
    have HOG0 : Hid (OwnT W X.heap.size v3 G) := by rw [HG.out]; exact HO3.out
    obtain ⟨aG, pG, e3⟩ := zA4 HOG0.out
    subst e3
    have HOG := D.zA0 HOG0.out
    have X3h := D.zA0 (show Blk W _ _ _ from (HB3.out.block _ (by omega)).trans X2h.out)
    have B3h := D.zA0 (B2h.out.trans (HB3.out.mono (show w.heap.size ≤ X.heap.size by omega)))
    have hXB := D.zA0 (Nat.le_trans hXB.out HB3.out.size)
    clear x2 x5 HO1 X2h B2h HR HI HO3 HB3 HOG0
   all_goals
    have x5 := X3h.out.cell 5
    simp at x5
    clear hps
    by_cases hA : (G.length : Int) > loc
    · rw [if_pos (.inl hA)] at hz
      go_wp2_with fail
      go_ret2
      rw [hz.out]
      exact ⟨_, rfl, B3h.out, rfl⟩
    by_cases hB : loc > 16
    · rw [if_pos (.inr hB)] at hz
      go_wp2_with fail
      go_ret2
      rw [hz.out]
      exact ⟨_, rfl, B3h.out, rfl⟩
    rw [if_neg (by omega)] at hz
    obtain ⟨L, rfl⟩ : ∃ L : Nat, loc = (L : Int) := ⟨loc.toNat, by omega⟩
    have hLi : (G.length : Int) ≤ (L : Int) := by omega
    have hL16 : (L : Int) ≤ 16 := by omega
    have hS0 := D.zA0 HOG.out
    go_wp2_with fail
    go_loopw [6] (fun gv wr => ∃ (k : Nat) (a : Option Addr) (p : Nat), gv = .slice a (G.length + k) p ∧ G.length + k ≤ L ∧ OwnT wr X.heap.size (.slice a (G.length + k) p) (G ++ List.replicate k zS0) ∧ Below X.heap.size W wr) (fun gv _ => L - zHf gv)
    case atStart => exact ⟨0, aG, pG, rfl, by omega, by simpa using HOG.out, Below.refl _ _⟩
    case round =>
     obtain ⟨k, a, p, rfl, hk, ho, hb⟩ := hrel
     have HO := D.zA0 ho
     have HB := D.zA0 hb
     have hz1 := hb.size
     have x5 := (show Blk wr _ _ _ from (hb.block _ (by have := hXB.out; omega)).trans X3h.out).cell 5
     simp at x5
     clear ho hb
     by_cases hlt : G.length + k < L
     · have hlt' : ((G.length + k : Nat) : Int) < (L : Int) := by omega
       have hlt2 : (G.length : Int) + (k : Int) < (L : Int) := by omega
       have HO2 := D.zA0 (HO.out.below (zA6 wr (.cells #[.string ⟨#[63]⟩] 9)))
       have HL2 := D.zA0 (laid1 wr ⟨#[63]⟩ (by decide))
       have hsz2 : X.heap.size ≤ (wr.alloc (.cells #[.string ⟨#[63]⟩] 9)).heap.size := by simp; have := hXB.out; omega
       have hlen : (G ++ List.replicate k zS0).length = G.length + k := by simp
       generalize hGk : G.length + k = n at *
       have HGk := D.zA0 hGk
       have HLen := D.zA0 hlen
       clear hGk hlen
       go_wp2_with (at_builtin; refine zK0 rfl _ _ rfl X.heap.size _ _ [⟨#[63]⟩] _ 1 HO2.out rfl rfl HL2.out (by rw [HLen.out]; simp; omega) hsz2 ?_; intro v3 w3 ho3 _ hb3; have HO3 := D.zA0 ho3; have HB3 := D.zA0 (HB.out.trans (((Below.refl _ wr).alloc (Nat.le_trans hXB.out hz1) _).trans hb3)); obtain ⟨a3, p3, e3⟩ := zA4 ho3; subst e3; clear ho3 hb3)
       have hGk := HGk.out
       have e : (G ++ List.replicate k zS0 ++ [ByteArray.mk #[63]]).length = G.length + (k + 1) := by simp
       go_roundw
       · refine ⟨k + 1, a3, p3, rfl, by omega, ?_, HB3.out⟩
         rw [← e, List.replicate_succ', ← List.append_assoc]
         exact HO3.out
       · simp only [zHf]; omega
     · have hlt' : ¬ ((G.length + k : Nat) : Int) < (L : Int) := by omega
       have hlt2 : ¬ (G.length : Int) + (k : Int) < (L : Int) := by omega
       go_wp2_with fail
       go_ret2
       rw [hz.out]
       refine ⟨_, rfl, B3h.out.trans (HB.out.mono hB1), ?_⟩
       have e : ((L : Int).toNat - G.length) = k := by omega
       simp only [e]
       exact HO.out.mono hB1
end Go.Proofs.YtpehimfnkmepnaaGreat.Fr
namespace Go.Proofs.YtpehimfnkmepnaaGreat.Q
open Go.RowKit D
theorem zA1 {w : World} {b : Nat} {cur : Array Value} {T : TypeId} (hg : w.heap[b]? = some (.cells cur T (0, 0))) (j : Nat) {u : Value} (h : cur[j]? = some u) : w.cell? ⟨b, j, none⟩ = some u := by
 rw [cell_of_row _ _ _ _ T (0, 0) hg]; exact h
end Go.Proofs.YtpehimfnkmepnaaGreat.Q
namespace Go.Proofs.YtpehimfnkmepnaaGreat.Fr
open Go.RowKit Q Q.D K
theorem zOr.yes {w w' : World} {e : Ending} {l : List ByteArray} {k : Int} (h : zOr w (some l, k) e w') (hs : ∀ s ∈ l, s.size ≤ 9223372036854775807) : ∃ ao c, e = .returned (.tuple #[.slice ao l.length c, .int .i64 k]) ∧ LAt 1 zD4 w' ao c l ∧ Below w.heap.size w w' := by
 obtain ⟨v, rfl, b, hv⟩ := h
 simp only at hv
 obtain ⟨ao, c, rfl, hl⟩ := hv.at hs
 exact ⟨ao, c, rfl, hl, b⟩
theorem laids (w : World) (l : List ByteArray) (hl : ∀ s ∈ l, s.size ≤ 9223372036854775807) (hn : l.length ≤ 1000) : LAt 1 zD4 (w.alloc (.cells (l.map Value.string).toArray 9)) (some ⟨w.heap.size, 0, none⟩) l.length l := by
 refine ⟨Nat.le_refl _, by unfold maxLen; omega, fun j => [.string (l.getD j ⟨#[]⟩)], fun _ => ⟨w.heap.size, 0, rfl, by simp, fun j hj i u hu => ?_⟩, fun i x hx => ?_⟩
 · match i, hu with
   | 0, hu =>
     cases hu
     rw [(Blk.new w _ 9).cell]
     simp [List.getD_eq_getElem?_getD, hj]
   | i + 1, hu => simp at hu
 · exact ⟨by simp only [List.getD_eq_getElem?_getD, hx]; rfl, hl x (List.mem_of_getElem? hx)⟩
theorem zSn (w : World) : FrV w zQ5 ⟨0, [], []⟩ := ⟨none, 0, none, 0, rfl, LAt.nil _ _ _ _ _ (by unfold maxLen; omega), LAt.nil _ _ _ _ _ (by unfold maxLen; omega)⟩
theorem zW8 : zJq ⟨#[65]⟩ ⟨#[40, 73, 41, 86]⟩ false 3 = (some [⟨#[76, 65, 59]⟩, ⟨#[73]⟩, ⟨#[63]⟩], 0) := by kernel_rfl
theorem boxed (W : World) (row : Array Value) : Blk ((W.alloc (.cells #[.int .i64 0, .slice none 0 0, .slice none 0 0] 67)).setRow W.heap.size row) W.heap.size row 67 ∧ Below W.heap.size W ((W.alloc (.cells #[.int .i64 0, .slice none 0 0, .slice none 0 0] 67)).setRow W.heap.size row) :=
 ⟨setRow_heap _ _ _ _ _ _ (Blk.new W _ _), zB8 (zA6 W _) (Nat.le_refl _) _⟩
theorem zJ8 (w : World) : Calls Tryz.prog 47 #[] w fun e w' => e = .returned (.bool true) ∧ Below w.heap.size w w' := by
 have GF := D.zA0 (fun W => zSc W ⟨#[65]⟩ ⟨#[]⟩ ⟨#[40, 73, 41, 86]⟩ false false 0 3 none none none 0 0 0 0 0 0 (by decide) (by decide))
 rw [zW8] at GF
 go_enter Tryz.func47, Tryz.ntmps47
 go_upto_region 2 with (first | (go_at_call 32; refine (GF.out _).mono ?_; intro e w1 hq; obtain ⟨a1, p1, rfl, hl1, b1⟩ := zOr.yes hq (by decide)))
 clear hq
 have HL1 := D.zA0 hl1
 have GP := D.zA0 (pop_no w1 zQ5 _ (zSn w1) 1 (by simp))
 unfold zQ5 at GP
 clear hl1 GF
 go_upto_region 3 with (first | (go_at_call 40; refine GP.out.mono ?_; rintro e w2 ⟨rfl, b2⟩) | (refine wpList_store_row rfl 67 _ _ rfl w2.heap.size #[.int .i64 0, .slice none 0 0, .slice none 0 0] rfl rfl 67 _ (Blk.new w2 _ _) (by kernel_rfl) rfl (by simp [Value.oneCell']) ?_))
 obtain ⟨_, b3⟩ := boxed w2 #[.int .i64 0, .slice none 0 0, .slice none 0 0]
 have HB3 := D.zA0 (b1.trans (((b2.trans (b3.mono b2.size))).mono b1.size))
 have HL3 := D.zA0 ((HL1.out.below b2 (fun _ _ h => h)).below b3 (fun _ _ h => h))
 clear GP HL1 b1 b2 b3
 generalize (w2.alloc (.cells #[.int .i64 0, .slice none 0 0, .slice none 0 0] 67)).setRow w2.heap.size #[.int .i64 0, .slice none 0 0, .slice none 0 0] = w3 at *
 have hv : FrV (w3.alloc (.cells #[.string ⟨#[73]⟩] 9)) (.agg #[.int .i64 0, .slice (some ⟨w3.heap.size, 0, none⟩) 1 1, .slice none 0 0]) ⟨0, [⟨#[73]⟩], []⟩ := ⟨_, _, _, _, rfl, laid1 w3 _ (by decide), LAt.nil _ _ _ _ _ (by unfold maxLen; omega)⟩
 have GS := D.zA0 (set_no _ _ _ hv 1 ⟨#[73]⟩ (.inr (by decide)))
 have b4 := zA6 w3 (.cells #[.string ⟨#[73]⟩] 9)
 unfold zQ5 at GS
 clear hv
 go_upto_region 4 with (first | (go_at_call 44; refine GS.out.mono ?_; rintro e w5 ⟨rfl, b5⟩) | (refine wpList_store_row rfl 67 _ _ rfl w5.heap.size #[.int .i64 0, .slice none 0 0, .slice none 0 0] rfl rfl 67 _ (Blk.new w5 _ _) (by kernel_rfl) rfl (by simp [Value.oneCell']) ?_))
 obtain ⟨_, b6⟩ := boxed w5 #[.int .i64 0, .slice none 0 0, .slice none 0 0]
 have b7 := (b4.trans (b5.mono b4.size)).trans (b6.mono (Nat.le_trans b4.size b5.size))
 have HB6 := D.zA0 (HB3.out.trans (b7.mono HB3.out.size))
 have HL6 := D.zA0 (HL3.out.below b7 (fun _ _ h => h))
 clear GS HL3 HB3 b4 b5 b6 b7
 generalize (w5.alloc (.cells #[.int .i64 0, .slice none 0 0, .slice none 0 0] 67)).setRow w5.heap.size #[.int .i64 0, .slice none 0 0, .slice none 0 0] = w6 at *
 have HSM := D.zA0 (zP1 a1 p1 _ _ _ _ (HL6.out.below (zA6 w6 (.cells ([⟨#[76, 65, 59]⟩, ⟨#[73]⟩, ⟨#[63]⟩].map Value.string).toArray 9)) (fun _ _ h => h)) (laids w6 _ (by decide) (by decide)))
 simp only [List.length_cons, List.length_nil, List.map_cons, List.map_nil] at HSM
 have b8 := zA6 w6 (.cells #[.string ⟨#[76, 65, 59]⟩, .string ⟨#[73]⟩, .string ⟨#[63]⟩] 9)
 go_wp2_with (first | (go_at_call 34; refine HSM.out.mono ?_; rintro e w9 ⟨rfl, b9⟩))
 go_ret
 exact ⟨rfl, HB6.out.trans ((b8.trans (b9.mono b8.size)).mono HB6.out.size)⟩
end Go.Proofs.YtpehimfnkmepnaaGreat.Fr
namespace Go.Proofs.YtpehimfnkmepnaaGreat.Fr
open Go.RowKit Q Q.D K T
theorem cells4 {cA cB cT cC : Array Value} (a : cA.size = 5) (b : cB.size = 5) (c : cT.size = 5) (i : Nat) (hi : i < 4) : ∃ r, (r = cA ∨ r = cB ∨ r = cT ∨ r = cC) ∧ ∀ t, t < 5 → (cA ++ cB ++ cT ++ cC)[i * 5 + t]? = r[t]? := by
 match i, hi with
 | 0, _ => exact ⟨cA, .inl rfl, fun t ht => by rw [Array.getElem?_append_left (by simp; omega), Array.getElem?_append_left (by simp; omega), Array.getElem?_append_left (by omega)]; congr 1; omega⟩
 | 1, _ => exact ⟨cB, .inr (.inl rfl), fun t ht => by rw [Array.getElem?_append_left (by simp; omega), Array.getElem?_append_left (by simp; omega), Array.getElem?_append_right (by omega)]; congr 1; omega⟩
 | 2, _ => exact ⟨cT, .inr (.inr (.inl rfl)), fun t ht => by rw [Array.getElem?_append_left (by simp; omega), Array.getElem?_append_right (by simp; omega)]; congr 1; simp; omega⟩
 | 3, _ => exact ⟨cC, .inr (.inr (.inr rfl)), fun t ht => by rw [Array.getElem?_append_right (by simp; omega)]; congr 1; simp; omega⟩
end Go.Proofs.YtpehimfnkmepnaaGreat.Fr
