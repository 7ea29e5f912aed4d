/- HeapNumbers: walked. -/
import Derived.Test.YtocblpiacodfaaaJZ
namespace Go.Proofs.Ytocblpiacodfaaa.J
open Go.RowKit Go.MapKept Go.ChangeMaps
set_option linter.unusedVariables false

variable {n0 : Nat} {w : World} {p most : Nat} {l : List Ob} {ss : List (List Bool)} {K : List (Nat × Ob)}
theorem hq_slide_no (h : Hq n0 w p most l ss) (hK : KOk l K) {B : Nat} (vk : Value) (hv : NOwn w B vk (keysK K)) (hok : okK ss K = false) :
    Calls Try.prog 13 #[.pointer (some ⟨p, 0, none⟩), vk] w fun e w' => e = .returned (.tuple #[.slice none 0 0, .int .i64 1]) ∧ Hq n0 w' p most l ss ∧ HpS n0 w w' :=
  (hq_slide h hK vk hv).mono fun e w' he => by
    rcases he with ⟨_, a⟩ | ⟨a, _⟩
    · exact a
    · rw [hok] at a; cases a
theorem hq_slide_yes (h : Hq n0 w p most l ss) (hK : KOk l K) {B : Nat} (vk : Value) (hv : NOwn w B vk (keysK K)) (hok : okK ss K = true) :
    Calls Try.prog 13 #[.pointer (some ⟨p, 0, none⟩), vk] w fun e w' => ∃ v, e = .returned (.tuple #[v, .int .i64 0]) ∧ NOwn w' w.heap.size v (begs 0 (obsK K)) ∧ Hq n0 w' p most (obsM ss K) ss ∧ HpS n0 w w' :=
  (hq_slide h hK vk hv).mono fun e w' he => by
    rcases he with ⟨a, _⟩ | ⟨_, a⟩
    · rw [hok] at a; cases a
    · exact a
theorem bview_two (w : World) (a b : Bool) : BView (w.alloc (.cells #[.bool a, .bool b] 4)) (.slice (some ⟨w.heap.size, 0, none⟩) 2 2) [a, b] := by
  refine ⟨_, 2, rfl, by simp, by unfold maxLen; omega, .inr ⟨w.heap.size, 0, rfl, fun j x hj => ?_⟩⟩
  rw [Nat.zero_add, (Blk.new w #[.bool a, .bool b] 4).cell j]
  match j, hj with
  | 0, hj => simpa using hj
  | 1, hj => simpa using hj
theorem nown_one (w : World) (x : Int) : NOwn (w.alloc (.cells #[.int .i64 x] 3)) w.heap.size (.slice (some ⟨w.heap.size, 0, none⟩) 1 1) [x] :=
  ⟨rfl, .inr ⟨w.heap.size, 1, _, rfl, Nat.le_refl _, heap_alloc_new w _, Nat.le_refl _, by unfold maxLen; omega, rfl, rfl⟩⟩
def SS1 : List (List Bool) := [[true, false]]
theorem KOk.one {l : List Ob} {q : Nat} {o : Ob} (h : atN l q = some o) : KOk l [(q, o)] := ⟨fun x hx => by
  obtain rfl : x = (q, o) := by simpa using hx
  exact h, by simp⟩
theorem KOk.none (l : List Ob) : KOk l [] := ⟨fun x hx => by simp at hx, List.Pairwise.nil⟩
set_option maxRecDepth 20000 in
set_option maxHeartbeats 4000000 in
theorem numbers_any (w : World) : Calls Try.prog 3 #[] w fun e w' => e = .returned (.bool true) ∧ Below w.heap.size w w' := by
  have GA := hidIt (hq_new 40 (by decide) (by decide) w)
  have GS1 : Hid (∀ W p v, Hq w.heap.size W p 40 [] [] → BView W v [true, false] → Calls Try.prog 8 #[.pointer (some ⟨p, 0, none⟩), v] W fun e w' => e = .returned (.int .i64 0) ∧ Hq w.heap.size w' p 40 [] SS1 ∧ HpS w.heap.size W w') := hidIt (fun W p v h b => hq_shape h v [true, false] b (by decide) (by decide))
  have GO1 : Hid (∀ W p, Hq w.heap.size W p 40 [] SS1 → Calls Try.prog 9 #[.pointer (some ⟨p, 0, none⟩), .int .i64 0] W fun e w' => e = .returned (.tuple #[.int .i64 1, .int .i64 0]) ∧ Hq w.heap.size w' p 40 [⟨0, 0, [0, 0]⟩] SS1 ∧ HpS w.heap.size W w') := hidIt (fun W p h => hq_object h 0 [true, false] rfl (by decide) (by decide))
  have GO2 : Hid (∀ W p, Hq w.heap.size W p 40 [⟨0, 0, [0, 0]⟩] SS1 → Calls Try.prog 9 #[.pointer (some ⟨p, 0, none⟩), .int .i64 0] W fun e w' => e = .returned (.tuple #[.int .i64 6, .int .i64 0]) ∧ Hq w.heap.size w' p 40 [⟨0, 0, [0, 0]⟩, ⟨0, 0, [0, 0]⟩] SS1 ∧ HpS w.heap.size W w') := hidIt (fun W p h => hq_object h 0 [true, false] rfl (by decide) (by decide))
  have GG1 : Hid (∀ W p, Hq w.heap.size W p 40 [⟨0, 0, [0, 0]⟩, ⟨0, 0, [0, 0]⟩] SS1 → Calls Try.prog 10 #[.pointer (some ⟨p, 0, none⟩), .int .i64 1, .int .i64 0] W fun e w' => e = .returned (.tuple #[.int .i64 0, .int .i64 0]) ∧ Below W.heap.size W w') := hidIt (fun W p h => hp_get h.1 1 0 (by decide))
  have GG2 : Hid (∀ W p, Hq w.heap.size W p 40 [⟨0, 0, [0, 0]⟩, ⟨0, 0, [0, 0]⟩] SS1 → Calls Try.prog 10 #[.pointer (some ⟨p, 0, none⟩), .int .i64 0, .int .i64 0] W fun e w' => e = .returned (.tuple #[.int .i64 0, .int .i64 1]) ∧ w' = W) := hidIt (fun W p h => hp_get_no h.1 0 0 (by decide))
  have GT1 : Hid (∀ W p, Hq w.heap.size W p 40 [⟨0, 0, [0, 0]⟩, ⟨0, 0, [0, 0]⟩] SS1 → Calls Try.prog 11 #[.pointer (some ⟨p, 0, none⟩), .int .i64 1, .int .i64 0, .int .i64 6] W fun e w' => e = .returned (.int .i64 0) ∧ Hq w.heap.size w' p 40 [⟨0, 0, [6, 0]⟩, ⟨0, 0, [0, 0]⟩] SS1 ∧ HpS w.heap.size W w') := hidIt (fun W p h => hq_set h 1 0 6 (by decide) (by decide))
  have GT2 : Hid (∀ W p, Hq w.heap.size W p 40 [⟨0, 0, [6, 0]⟩, ⟨0, 0, [0, 0]⟩] SS1 → Calls Try.prog 11 #[.pointer (some ⟨p, 0, none⟩), .int .i64 1, .int .i64 0, .int .i64 3] W fun e w' => e = .returned (.int .i64 20) ∧ w' = W) := hidIt (fun W p h => hq_set_type h 1 0 3 (by decide) (by decide))
  have GT3 : Hid (∀ W p, Hq w.heap.size W p 40 [⟨0, 0, [6, 0]⟩, ⟨0, 0, [0, 0]⟩] SS1 → Calls Try.prog 11 #[.pointer (some ⟨p, 0, none⟩), .int .i64 1, .int .i64 1, .int .i64 (-3)] W fun e w' => e = .returned (.int .i64 0) ∧ Hq w.heap.size w' p 40 [⟨0, 0, [6, -3]⟩, ⟨0, 0, [0, 0]⟩] SS1 ∧ HpS w.heap.size W w') := hidIt (fun W p h => hq_set h 1 1 (-3) (by decide) (by decide))
  have GO3 : Hid (∀ W p, Hq w.heap.size W p 40 [⟨0, 0, [6, -3]⟩, ⟨0, 0, [0, 0]⟩] SS1 → Calls Try.prog 9 #[.pointer (some ⟨p, 0, none⟩), .int .i64 9] W fun e w' => e = .returned (.tuple #[.int .i64 0, .int .i64 1]) ∧ w' = W) := hidIt (fun W p h => hq_object_bad h 9 (.inr (by decide)))
  have GL1 : Hid (∀ W p v, Hq w.heap.size W p 40 [⟨0, 0, [6, -3]⟩, ⟨0, 0, [0, 0]⟩] SS1 → NOwn W w.heap.size v [1] → Calls Try.prog 13 #[.pointer (some ⟨p, 0, none⟩), v] W fun e w' => e = .returned (.tuple #[.slice none 0 0, .int .i64 1]) ∧ Hq w.heap.size w' p 40 [⟨0, 0, [6, -3]⟩, ⟨0, 0, [0, 0]⟩] SS1 ∧ HpS w.heap.size W w') := hidIt (fun W p v h b => hq_slide_no h (K := [(0, ⟨0, 0, [6, -3]⟩)]) (KOk.one rfl) v b (by decide))
  have GL2 : Hid (∀ W p v, Hq w.heap.size W p 40 [⟨0, 0, [6, -3]⟩, ⟨0, 0, [0, 0]⟩] SS1 → NOwn W w.heap.size v [6] → Calls Try.prog 13 #[.pointer (some ⟨p, 0, none⟩), v] W fun e w' => ∃ v', e = .returned (.tuple #[v', .int .i64 0]) ∧ NOwn w' W.heap.size v' [1] ∧ Hq w.heap.size w' p 40 [⟨0, 0, [0, 0]⟩] SS1 ∧ HpS w.heap.size W w') := hidIt (fun W p v h b => hq_slide_yes h (K := [(5, ⟨0, 0, [0, 0]⟩)]) (KOk.one rfl) v b (by decide))
  have GTg : Hid (∀ W p, Hq w.heap.size W p 40 [⟨0, 0, [0, 0]⟩] SS1 → Calls Try.prog 14 #[.pointer (some ⟨p, 0, none⟩), .int .i64 1, .int .i64 77] W fun e w' => e = .returned (.int .i64 0) ∧ Hq w.heap.size w' p 40 [⟨0, 77, [0, 0]⟩] SS1 ∧ HpS w.heap.size W w') := hidIt (fun W p h => hq_tag h 1 77 ⟨0, 0, [0, 0]⟩ rfl)
  have GL3 : Hid (∀ W p, Hq w.heap.size W p 40 [⟨0, 77, [0, 0]⟩] SS1 → Calls Try.prog 13 #[.pointer (some ⟨p, 0, none⟩), .slice none 0 0] W fun e w' => ∃ v', e = .returned (.tuple #[v', .int .i64 0]) ∧ NOwn w' W.heap.size v' [] ∧ Hq w.heap.size w' p 40 [] SS1 ∧ HpS w.heap.size W w') := hidIt (fun W p h => hq_slide_yes h (K := []) (KOk.none _) _ (NOwn.nil W W.heap.size) (by decide))
  have GS2 : Hid (∀ W p v, Hq w.heap.size W p 40 [] SS1 → BView W v [true, false] → Calls Try.prog 8 #[.pointer (some ⟨p, 0, none⟩), v] W fun e w' => e = .returned (.int .i64 0) ∧ Hq w.heap.size w' p 40 [] SS1 ∧ HpS w.heap.size W w') := hidIt (fun W p v h b => hq_shape h v [true, false] b (by decide) (by decide))
  have GS3 : Hid (∀ W p v, Hq w.heap.size W p 40 [] SS1 → BView W v [] → Calls Try.prog 8 #[.pointer (some ⟨p, 0, none⟩), v] W fun e w' => e = .returned (.int .i64 1) ∧ Hq w.heap.size w' p 40 [] (SS1 ++ [[]]) ∧ HpS w.heap.size W w') := hidIt (fun W p v h b => hq_shape h v [] b (by decide) (by decide))
  have tk2 : True := trivial
  go_enter Try.func3, Try.ntmps3
  go_wp2_with (first
    | (go_at_call 7; refine GA.out.mono ?_; rintro e w' ⟨p, rfl, hv, hb⟩; have HV0 := hidIt hv; have HB0 := hidIt hb; clear hv hb GA)
    | (go_at_call 7; clear tk2; refine (New_no 0 (.inl (by decide)) _).mono ?_; rintro e w' ⟨rfl, hww⟩; cases hww)
    | (go_at_call 7; refine (New_no 16385 (.inr (by decide)) _).mono ?_; rintro e w' ⟨rfl, hww⟩; cases hww)
    | (go_at_call 8; refine (GS1.out _ _ _ (HV0.out.below (balloc _ _)) (bview_two _ _ _)).mono ?_; rintro e w' ⟨rfl, hv, hs⟩; have HV1 := hidIt hv; have HB1 := hidIt ((HB0.out.trans ((balloc _ _).mono HB0.out.size)).trans (hs.below _ (Nat.le_refl _))); clear hv hs GS1 HV0)
    | (go_at_call 9; refine (GO1.out _ _ HV1.out).mono ?_; rintro e w' ⟨rfl, hv, hs⟩; have HV2 := hidIt hv; have HB2 := hidIt (HB1.out.trans (hs.below _ (Nat.le_refl _))); clear hv hs GO1 HV1 HB1)
    | (go_at_call 9; refine (GO2.out _ _ HV2.out).mono ?_; rintro e w' ⟨rfl, hv, hs⟩; have HV3 := hidIt hv; have HB3 := hidIt (HB2.out.trans (hs.below _ (Nat.le_refl _))); clear hv hs GO2 HV2 HB2)
    | (go_at_call 10; refine (GG1.out _ _ HV3.out).mono ?_; rintro e w' ⟨rfl, hb⟩; have HV4 := hidIt (HV3.out.below hb); have HB4 := hidIt (HB3.out.trans (hb.mono HB3.out.size)); clear hb GG1 HV3 HB3)
    | (go_at_call 10; refine (GG2.out _ _ HV4.out).mono ?_; rintro e w' ⟨rfl, hww⟩; cases hww; clear GG2)
    | (go_at_call 11; refine (GT1.out _ _ HV4.out).mono ?_; rintro e w' ⟨rfl, hv, hs⟩; have HV5 := hidIt hv; have HB5 := hidIt (HB4.out.trans (hs.below _ (Nat.le_refl _))); clear hv hs GT1 HV4 HB4)
    | (go_at_call 11; refine (GT2.out _ _ HV5.out).mono ?_; rintro e w' ⟨rfl, hww⟩; cases hww; clear GT2)
    | (go_at_call 11; refine (GT3.out _ _ HV5.out).mono ?_; rintro e w' ⟨rfl, hv, hs⟩; have HV6 := hidIt hv; have HB6 := hidIt (HB5.out.trans (hs.below _ (Nat.le_refl _))); clear hv hs GT3 HV5 HB5)
    | (go_at_call 12; refine (Array_bad false 257 (.inr (by decide)) _ _).mono ?_; rintro e w' ⟨rfl, hww⟩; cases hww)
    | (go_at_call 9; refine (GO3.out _ _ HV6.out).mono ?_; rintro e w' ⟨rfl, hww⟩; cases hww; clear GO3)
    | (go_at_call 13; refine (GL1.out _ _ _ (HV6.out.below (balloc _ _)) (own_wk (nown_one _ _) HB6.out.size)).mono ?_; rintro e w' ⟨rfl, hv, hs⟩; have HV7 := hidIt hv; have HB7 := hidIt ((HB6.out.trans ((balloc _ _).mono HB6.out.size)).trans (hs.below _ (Nat.le_refl _))); clear hv hs GL1 HV6 HB6)
    | (go_at_call 13; refine (GL2.out _ _ _ (HV7.out.below (balloc _ _)) (own_wk (nown_one _ _) HB7.out.size)).mono ?_; rintro e w' ⟨v8, rfl, ho, hv, hs⟩; have HV8 := hidIt hv; have HB8 := hidIt ((HB7.out.trans ((balloc _ _).mono HB7.out.size)).trans (hs.below _ (Nat.le_refl _))); have HT8 := hidIt (own_wk ho (B' := w.heap.size) (Nat.le_trans HB7.out.size (balloc _ _).size)); obtain ⟨a8, c8, rfl⟩ := own_slice ho; clear ho hv hs GL2 HV7 HB7)
    | (go_at_call 14; refine (GTg.out _ _ HV8.out).mono ?_; rintro e w' ⟨rfl, hv, hs⟩; have HV9 := hidIt hv; have HB9 := hidIt (HB8.out.trans (hs.below _ (Nat.le_refl _))); have HT9 := hidIt (hs.own (by unfold OT; decide) HT8.out); clear hv hs GTg HV8 HB8 HT8)
    | (go_at_call 13; refine (GL3.out _ _ HV9.out).mono ?_; rintro e w' ⟨v10, rfl, ho, hv, hs⟩; have HV10 := hidIt hv; have HB10 := hidIt (HB9.out.trans (hs.below _ (Nat.le_refl _))); have HT10 := hidIt (hs.own (by unfold OT; decide) HT9.out); obtain ⟨a10, c10, rfl⟩ := own_slice ho; clear ho hv hs GL3 HV9 HB9 HT9)
    | (go_at_call 8; refine (GS2.out _ _ _ (HV10.out.below (balloc _ _)) (bview_two _ _ _)).mono ?_; rintro e w' ⟨rfl, hv, hs⟩; have HV11 := hidIt hv; have HB11 := hidIt ((HB10.out.trans ((balloc _ _).mono HB10.out.size)).trans (hs.below _ (Nat.le_refl _))); have HT11 := hidIt (hs.own (by unfold OT; decide) (own_below HT10.out (balloc _ _))); clear hv hs GS2 HV10 HB10 HT10)
    | (go_at_call 8; refine (GS3.out _ _ _ HV11.out (BView.nil _)).mono ?_; rintro e w' ⟨rfl, hv, hs⟩; have HV12 := hidIt hv; have HB12 := hidIt (HB11.out.trans (hs.below _ (Nat.le_refl _))); have HT12 := hidIt (hs.own (by unfold OT; decide) HT11.out); clear hv hs GS3 HV11 HB11 HT11)
    | (go_at_call 15; refine (nsame_any _ _ [1] _ (NOwn.view (own_below HT12.out (balloc _ _))) (NOwn.view (nown_one _ 1))).mono ?_; rintro e w' ⟨rfl, hb⟩; have HV13 := hidIt (HV12.out.below ((balloc _ _).trans (hb.mono (by simp)))); have HB13 := hidIt (HB12.out.trans (((balloc _ _).trans (hb.mono (by simp))).mono HB12.out.size)); clear hb HV12 HB12 HT12)
    | (go_at_call 16; refine (hp_used HV13.out.1).mono ?_; rintro e w' ⟨rfl, hww⟩; cases hww)
    | (go_at_call 17; refine (hp_words HV13.out.1).mono ?_; rintro e w' ⟨rfl, hww⟩; cases hww)
    | (go_at_call 18; refine (hp_shp HV13.out.1 0).mono ?_; rintro e w' ⟨rfl, hww⟩; cases hww)
    | (go_at_call 19; refine (hp_tag HV13.out.1 1).mono ?_; rintro e w' ⟨rfl, hww⟩; cases hww)
    | (go_at_call 20; refine (known_any _).mono ?_; rintro e w' ⟨rfl, hb⟩; have HB14 := hidIt (HB13.out.trans (hb.mono HB13.out.size)); clear hb))
  go_ret
  exact ⟨rfl, HB14.out⟩
end Go.Proofs.Ytocblpiacodfaaa.J
