/- KinNumbers. -/
import Derived.Test.YtlkhfpbniogllaaKNb
import Derived.Test.YtlkhfpbniogllaaQBT
import Derived.Test.YtlkhfpbniogllaaKZ
import Derived.Test.YtlkhfpbniogllaaKSm
namespace Go.Proofs.Ytlkhfpbniogllaa.K
open Go.RowKit Q Q.D

theorem GvI.view {w W : World} {v : Value} {ks : List KD} {rows : Nat → List Value} (I : GvI (putK w v) W v ks rows) : ∃ ao c, RV W w.heap.size ks ao c := by
  obtain ⟨ao, c, hv, l1, l2, hr⟩ := own_rows I.o I.k
  exact ⟨ao, c, I.box.lt, hv ▸ I.bx, l1, l2, rows, RowsAt.ext hr (seen_ext _ _), fun j x hx => ClassV.ext (seen_ext _ _) (I.r j x hx)⟩
def gnames : List ByteArray := givenK.map KD.nm
theorem gnames_size : ∀ s ∈ gnames, s.size ≤ 9223372036854775807 := by
  have h : ∀ s ∈ gnames, s.size ≤ 1000 := by decide +kernel
  exact fun s hs => Nat.le_trans (h s hs) (by decide)

theorem kg_find : ∀ (i : Nat) (k : KD), givenK[i]? = some k → kfind givenK.reverse k.nm = some k := fun i k h => by
  match i, h with
  | 0, h => cases h; rfl
  | 1, h => cases h; rfl
  | 2, h => cases h; rfl
  | 3, h => cases h; rfl
  | 4, h => cases h; rfl
  | 5, h => cases h; rfl
  | 6, h => cases h; rfl
  | 7, h => cases h; rfl
  | 8, h => cases h; rfl
  | 9, h => cases h; rfl
  | 10, h => cases h; rfl
  | 11, h => cases h; rfl
  | 12, h => cases h; rfl
  | n + 13, h => exact absurd h (by rw [List.getElem?_eq_none (by show 13 ≤ n + 13; omega)]; simp)
theorem kg_apart0 : ∀ a b : Fin 13, b < a → (((givenK[b.val]?.map KD.nm).getD ⟨#[]⟩).toList == ((givenK[a.val]?.map KD.nm).getD ⟨#[]⟩).toList) = false := by decide +kernel
theorem kg_apart (i : Nat) (hi : i < 13) (k : KD) (hk : givenK[i]? = some k) : ∀ j x, j < i → givenK[j]? = some x → (x.nm.toList == k.nm.toList) = false := fun j x hj hx => by
  have := kg_apart0 ⟨i, hi⟩ ⟨j, by omega⟩ hj
  simpa [hk, hx] using this
theorem kg_name {i : Nat} {s : ByteArray} (hs : gnames[i]? = some s) : ∃ k, givenK[i]? = some k ∧ k.nm = s := by
  unfold gnames at hs
  rw [List.getElem?_map] at hs
  cases hg : givenK[i]? with
  | none => rw [hg] at hs; simp at hs
  | some k => rw [hg] at hs; exact ⟨k, rfl, by simpa using hs⟩
theorem mfind_of {R : List Mem} {s : ByteArray} {k : KD} {l : List KD} (hR : R.map Mem.k = l) (hf : kfind l s = some k) : ∃ m, mfind R s = some m ∧ m.k = k := by
  have := mfind_k R s
  rw [hR, hf] at this
  cases hm : mfind R s with
  | none => rw [hm] at this; simp at this
  | some m => rw [hm] at this; exact ⟨m, rfl, by simpa using this⟩

theorem oneM {W : World} {g : Nat} (n d : ByteArray) (s nat : Bool) (hb : Blk W g #[.string n, .string d, .bool s, .bool nat, .int .i64 0, .int .i64 0, .slice none 0 0, .slice none 0 0, .slice none 0 0] 43) (h1 : n.size ≤ 1000) (h2 : d.size ≤ 1000) :
    ClassV W (.agg #[.string ⟨#[78]⟩, .string objectN, .slice none 0 0, .slice none 0 0, .slice (some ⟨g, 0, none⟩) 1 1]) ⟨⟨#[78]⟩, objectN, [], [], [⟨n, d, s, nat, 0, 0, [], [], []⟩]⟩ := by
  refine ClassV.ext (seen_ext (fun _ => true) W) ⟨none, 0, none, 0, some ⟨g, 0, none⟩, 1, rfl, by show (⟨#[78]⟩ : ByteArray).size ≤ _; decide, by show objectN.size ≤ _; decide, LAt.nil _ _ _ _ _ (by unfold maxLen; omega), LAt.nil _ _ _ _ _ (by unfold maxLen; omega), ?_⟩
  refine block_meths hb rfl 1 1 (Nat.le_refl _) (by unfold maxLen; omega) _ rfl (fun _ => [.string n, .string d, .bool s, .bool nat, .int .i64 0, .int .i64 0, .slice none 0 0, .slice none 0 0, .slice none 0 0]) (ix9 rfl (fun j hj => rfl)) (fun j x hx => ?_)
  match j, hx with
  | 0, hx =>
    cases hx
    exact ⟨none, 0, none, 0, none, 0, rfl, by dsimp only; omega, by dsimp only; omega, ⟨none, 0, rfl, Nat.le_refl _, by unfold maxLen; omega, fun x hx => by simp at hx, .inl rfl⟩, LAt.nil _ _ _ _ _ (by unfold maxLen; omega), LAt.nil _ _ _ _ _ (by unfold maxLen; omega)⟩
  | j + 1, hx => simp at hx
theorem subB_k (R : List Mem) (a b : ByteArray) : subB R a b = (klin (R.map Mem.k) a).any (fun k => k.nm.toList == b.toList) := by
  unfold subB; rw [← lin_k, List.any_map]; rfl
def nN : ByteArray := ⟨#[78]⟩
def cK : KD := ⟨⟨#[78]⟩, objectN, [], [], [⟨⟨#[120]⟩, ⟨#[40, 41, 86]⟩, false, true, 0, 0, [], [], []⟩]⟩
def dK : KD := ⟨⟨#[78]⟩, objectN, [], [], [⟨⟨#[119, 97, 105, 116]⟩, ⟨#[40, 41, 86]⟩, true, false, 0, 0, [], [], []⟩]⟩
theorem ka : krefZ givenK.reverse (plainK objectN objectN) = 23 := by decide +kernel
theorem kb : krefZ givenK.reverse (plainK ⟨#[57]⟩ ⟨#[]⟩) = 13 := by decide +kernel
theorem kc : krefZ givenK.reverse cK = 12 := by decide +kernel
theorem kd : krefZ givenK.reverse dK = 23 := by decide +kernel
theorem ke : krefZ givenK.reverse (plainK ⟨#[78]⟩ ⟨#[]⟩) = 22 := by decide +kernel
theorem ks1 : ((klin givenK.reverse ⟨#[65]⟩).any fun k => k.nm.toList == (⟨#[65]⟩ : ByteArray).toList) = false := by decide +kernel
theorem ks2 : ((klin givenK.reverse ⟨#[73, 110, 100, 101, 120]⟩).any fun k => k.nm.toList == (⟨#[79, 98, 106, 101, 99, 116]⟩ : ByteArray).toList) = true := by decide +kernel
theorem ks3 : ((klin givenK.reverse ⟨#[79, 98, 106, 101, 99, 116]⟩).any fun k => k.nm.toList == (⟨#[73, 110, 100, 101, 120]⟩ : ByteArray).toList) = false := by decide +kernel
theorem ks4 : klin givenK.reverse ⟨#[110, 111, 110, 101]⟩ = [] := by rfl
theorem add_no (n0 : Nat) (w : World) (pk mb : Nat) (v : Value) (R : List Mem) (h : KinO n0 w pk mb v R) (k : KD) (cv : Value) (hc : ClassV w cv k) (hR : R.map Mem.k = givenK.reverse) (z : Int) (hz : krefZ givenK.reverse k = z) (hne : z ≠ 0) :
    Calls Try.prog 14 #[.pointer (some ⟨pk, 0, none⟩), cv] w fun e w' => e = .returned (.int .i64 z) ∧ Below w.heap.size w w' := by
  have A := add_any n0 w pk mb v R h k cv hc
  have hr : refZ R k = z := by rw [refZ_k, hR]; exact hz
  unfold AddIs at A
  rw [hr] at A
  refine A.mono ?_
  rintro e w' ⟨rfl, b⟩
  rw [if_neg hne] at b
  exact ⟨rfl, b⟩

set_option maxRecDepth 8000 in
set_option maxHeartbeats 4000000 in
theorem numbers_any (w : World) : Calls Try.prog 3 #[] w fun e w' => e = .returned (.bool true) ∧ Below w.heap.size w w' := by
  go_enter Try.func3, Try.ntmps3
  go_wp2_with fail
  refine (new_any w).mono ?_
  rintro e w1 ⟨pk, mb, v, R, rfl, KO, hR, B1⟩
  go_wp2_with fail
  refine (rnew_any w1).mono ?_
  rintro e w2 ⟨rv, rrows, rfl, I⟩
  have b2 : Below w1.heap.size w1 w2 := next (balloc w1 _) I.B
  have KO2 := KO.below b2
  obtain ⟨rao, rc, RV2⟩ := I.view
  have B2 := next B1 b2
  have hnm : (R.reverse.map fun m => Value.string m.k.nm) = gnames.map Value.string := by
    unfold gnames; rw [← hR]; simp
  have hlenR : R.length = 13 := by have := congrArg List.length hR; rw [List.length_map, List.length_reverse] at this; exact this
  have hgn : givenK.map (fun k => Value.string k.nm) = gnames.map Value.string := by unfold gnames; simp
  have hgl : gnames.length = 13 := rfl
  obtain ⟨ao, c, hv, V⟩ := KO2.view
  have N1 := D.hidIt (names_any w2 pk R mb ao c V (by omega))
  rw [hlenR, hnm] at N1
  clear KO b2 I hv V
  generalize w1.heap.size = rp at *
  go_wp2_with fail
  refine N1.out.mono ?_
  rintro e w3 ⟨b3, v3, rfl, o3⟩
  have RV3 := RV2.below b3
  have N2 := D.hidIt (rnames_any w3 rp givenK rao rc RV3 (by decide))
  rw [hgn] at N2
  go_wp2_with fail
  refine N2.out.mono ?_
  rintro e w4 ⟨b4, v4, rfl, o4⟩
  obtain ⟨a3, c3, rfl, L3⟩ := own_texts (own_keep o3 b4) gnames_size
  obtain ⟨a4, c4, rfl, L4⟩ := own_texts o4 gnames_size
  go_wp2_with fail
  refine (same_any a3 c3 a4 c4 gnames w4 L3 L4).mono ?_
  rintro e w5 ⟨rfl, b5⟩
  clear L3 L4 N1 N2 o3 o4
  have b25 := next b3 (next b4 b5)
  have KO5 := KO2.below b25
  have RV5 := RV2.below b25
  have B5 := next B2 b25
  clear KO2 RV2 RV3 b3 b4 b5 b25 B2
  have N3 := D.hidIt (rnames_any w5 rp givenK rao rc RV5 (by decide))
  rw [hgn] at N3
  go_wp2_with fail
  refine N3.out.mono ?_
  rintro e w6 ⟨b6, v6, rfl, o6⟩
  obtain ⟨a6, c6, rfl, L6⟩ := own_texts o6 gnames_size
  have KO6 := KO5.below b6
  have RV6 := RV5.below b6
  have B6 := next B5 b6
  clear KO5 RV5 N3 o6
  rw [hgl] at *
  go_wp2_with fail
  have hR' : R.map Mem.k = givenK.reverse := by rw [← hR, List.map_reverse, List.reverse_reverse]
  have hsm : ∀ m ∈ R, KSm m.k := small_of_k hR' (fun k hk => given_small k (by simpa using hk))
  have HSM := D.hidIt hsm
  have HR := D.hidIt hR'
  have LL := D.hidIt L6
  have KK := D.hidIt KO6
  have RR := D.hidIt RV6
  clear L6 hsm hR hR' hnm hgn hgl KO6 RV6 b6 B5
  go_loopw [4] (fun iv wr => ∃ i : Nat, iv = .int .i64 (i : Int) ∧ i ≤ 13 ∧ Hid (Below w6.heap.size w6 wr)) (fun iv _ => 13 - (intOf iv).toNat)
  case atStart => exact ⟨0, rfl, Nat.zero_le _, Below.refl _ _⟩
  case round =>
    obtain ⟨i, rfl, hi, HB⟩ := hrel
    by_cases hlt : i < 13
    · have hlt' : (i : Int) < 13 := by omega
      obtain ⟨s, hs⟩ : ∃ s, gnames[i]? = some s := ⟨_, List.getElem?_eq_getElem (show i < gnames.length from hlt)⟩
      obtain ⟨k, hk, hks⟩ := kg_name hs
      subst hks
      obtain ⟨m, hm, hmk⟩ := mfind_of HR.out (kg_find i k hk)
      obtain ⟨ao', c', hv', V'⟩ := (KK.out.below HB.out).view
      have G := D.hidIt (get_any wr pk R mb ao' c' V' HSM.out k.nm)
      rw [hm] at G
      obtain ⟨b, off, r, rfl, hr, hc⟩ := (LL.out.below HB.out (fun _ _ h => h)).row hs
      have z0 := hc 0 (.string k.nm) (by rw [hr.1]; rfl)
      simp only [Nat.mul_one, Nat.add_zero] at z0
      clear hc hr hv' V' hm
      go_wp2_with fail
      refine G.out.mono ?_
      rintro e x1 ⟨d1, v1, rfl, C1⟩
      have C1 : ClassV x1 v1 k := hmk ▸ ClassV.ext (seen_ext _ _) C1
      clear G
      have z1 := (ext_below d1).cell _ _ z0
      obtain ⟨o1, q1, o2, q2, o3, q3, rfl, _⟩ := id C1
      have HC1 := D.hidIt C1
      clear C1
      have y1 := balloc x1 (.cells #[.string k.nm, .string k.sup, .slice o1 k.pool.length q1, .slice o2 k.fs.length q2, .slice o3 k.ms.length q3] 33)
      have Y1 := Blk.new x1 #[.string k.nm, .string k.sup, .slice o1 k.pool.length q1, .slice o2 k.fs.length q2, .slice o3 k.ms.length q3] 33
      have z2 := (ext_below y1).cell _ _ z1
      have e2 := next HB.out (next d1 y1)
      have RG := D.hidIt (rget_any _ rp givenK rao rc (RR.out.below e2) k.nm i k hk rfl (kg_apart i hlt k hk))
      go_wp2_with fail
      refine RG.out.mono ?_
      rintro e x3 ⟨d3, v3, rfl, C3⟩
      obtain ⟨p1, t1, p2, t2, p3, t3, rfl, _⟩ := id C3
      have y3 := balloc x3 (.cells #[.string k.nm, .string k.sup, .slice p1 k.pool.length t1, .slice p2 k.fs.length t2, .slice p3 k.ms.length t3] 33)
      have Y3 := Blk.new x3 #[.string k.nm, .string k.sup, .slice p1 k.pool.length t1, .slice p2 k.fs.length t2, .slice p3 k.ms.length t3] 33
      have Y1' := (Y1.below d3).below y3
      have f0 := (Y1'.cell 0).trans rfl
      have f1 := (Y1'.cell 1).trans rfl
      have f2 := (Y1'.cell 2).trans rfl
      have f3 := (Y1'.cell 3).trans rfl
      have f4 := (Y1'.cell 4).trans rfl
      have SC := D.hidIt (same_class k _ _ _ (ClassV.below (next y1 (next d3 y3)) HC1.out) (ClassV.below y3 C3))
      have e4 := D.hidIt (next e2 (next d3 y3))
      clear C3 RG z0 z1 z2 Y1 Y1' y1
      go_wp2_with fail
      refine SC.out.mono ?_
      rintro e x5 ⟨rfl, d5⟩
      go_wp2
      go_roundw
      case rel => exact ⟨i + 1, by go_num, by omega, next e4.out d5⟩
      case measure => simp [intOf]; omega
    · have hlt' : ¬ (i : Int) < 13 := by omega
      have KA := KK.out.below HB.out
      have BA := next B6 HB.out
      clear KK RR LL HSM B6 HB
      have A1 := D.hidIt (add_no _ wr pk mb v R KA (plainK objectN objectN) _ (plain_class objectN objectN wr (by decide) (by decide)) HR.out 23 ka (by decide))
      go_wp2_with fail
      refine A1.out.mono ?_
      rintro e w7 ⟨rfl, b7⟩
      have K7 := KA.below b7
      have A2 := D.hidIt (add_no _ w7 pk mb v R K7 (plainK ⟨#[57]⟩ ⟨#[]⟩) _ (plain_class ⟨#[57]⟩ ⟨#[]⟩ w7 (by decide) (by decide)) HR.out 13 kb (by decide))
      clear A1 KA
      go_wp2_with fail
      refine A2.out.mono ?_
      rintro e w8 ⟨rfl, b8⟩
      have K8 := K7.below b8
      have y8 := balloc w8 (.cells #[.string ⟨#[120]⟩, .string ⟨#[40, 41, 86]⟩, .bool false, .bool true, .int .i64 0, .int .i64 0, .slice none 0 0, .slice none 0 0, .slice none 0 0] 43)
      have A3 := D.hidIt (add_no _ _ pk mb v R (K8.below y8) cK _ (oneM ⟨#[120]⟩ ⟨#[40, 41, 86]⟩ false true (Blk.new w8 _ _) (by decide) (by decide)) HR.out 12 kc (by decide))
      clear A2 K7
      unfold objectN at A3
      go_wp2_with fail
      refine A3.out.mono ?_
      rintro e w9 ⟨rfl, b9⟩
      have K9 := (K8.below y8).below b9
      have B9 := next BA (next b7 (next b8 (next y8 b9)))
      have y9 := balloc w9 (.cells #[.string ⟨#[119, 97, 105, 116]⟩, .string ⟨#[40, 41, 86]⟩, .bool true, .bool false, .int .i64 0, .int .i64 0, .slice none 0 0, .slice none 0 0, .slice none 0 0] 43)
      have A4 := D.hidIt (add_no _ _ pk mb v R (K9.below y9) dK _ (oneM ⟨#[119, 97, 105, 116]⟩ ⟨#[40, 41, 86]⟩ true false (Blk.new w9 _ _) (by decide) (by decide)) HR.out 23 kd (by decide))
      clear A3 K8 BA b7 b8 y8 b9
      unfold objectN at A4
      go_wp2_with fail
      refine A4.out.mono ?_
      rintro e w10 ⟨rfl, b10⟩
      have K10 := (K9.below y9).below b10
      have B10 := next B9 (next y9 b10)
      have A5 := D.hidIt (add_no _ w10 pk mb v R K10 (plainK ⟨#[78]⟩ ⟨#[]⟩) _ (plain_class ⟨#[78]⟩ ⟨#[]⟩ w10 (by decide) (by decide)) HR.out 22 ke (by decide))
      clear A4 K9 B9 y9 b10
      go_wp2_with fail
      refine A5.out.mono ?_
      rintro e w11 ⟨rfl, b11⟩
      have K11 := K10.below b11
      have B11 := next B10 b11
      clear A5 K10 B10 b11
      obtain ⟨ao1, c1, hv1, V1⟩ := K11.view
      have S1 := D.hidIt (sub_any w11 pk R mb ao1 c1 V1 ⟨#[65]⟩ ⟨#[65]⟩)
      rw [subB_k, HR.out, ks1] at S1
      go_wp2_with fail
      refine S1.out.mono ?_
      rintro e w12 ⟨rfl, b12⟩
      have V2 := V1.below b12
      have S2 := D.hidIt (sub_any w12 pk R mb ao1 c1 V2 ⟨#[73, 110, 100, 101, 120]⟩ ⟨#[79, 98, 106, 101, 99, 116]⟩)
      rw [subB_k, HR.out, ks2] at S2
      go_wp2_with fail
      refine S2.out.mono ?_
      rintro e w13 ⟨rfl, b13⟩
      have V3 := V2.below b13
      have S3 := D.hidIt (sub_any w13 pk R mb ao1 c1 V3 ⟨#[79, 98, 106, 101, 99, 116]⟩ ⟨#[73, 110, 100, 101, 120]⟩)
      rw [subB_k, HR.out, ks3] at S3
      go_wp2_with fail
      refine S3.out.mono ?_
      rintro e w14 ⟨rfl, b14⟩
      have V4 := V3.below b14
      have B14 := next B11 (next b12 (next b13 b14))
      have LN := D.hidIt (kline_any w14 pk R mb ao1 c1 V4 (by omega) ⟨#[110, 111, 110, 101]⟩)
      have hl : lin R ⟨#[110, 111, 110, 101]⟩ = [] := by
        have := lin_k R ⟨#[110, 111, 110, 101]⟩
        rw [HR.out, ks4] at this
        simpa using this
      rw [hl] at LN
      clear S1 S2 S3 V1 V2 V3 b12 b13 b14 B11 hl
      go_wp2_with fail
      refine LN.out.mono ?_
      rintro e w15 ⟨v15, rfl, o15, b15⟩
      obtain ⟨a15, c15, rfl, _⟩ := own_texts (l := []) o15 (by simp)
      have B15 := next B14 b15
      clear LN o15
      simp only [List.length_nil]
      go_wp2_with fail
      refine (known_any w15).mono ?_
      rintro e w16 ⟨rfl, b16⟩
      have B16 := next B15 b16
      go_wp2
      go_ret
      exact ⟨rfl, B16⟩
end Go.Proofs.Ytlkhfpbniogllaa.K
