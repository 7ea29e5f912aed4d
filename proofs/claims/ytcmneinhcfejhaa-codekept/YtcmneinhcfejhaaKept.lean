/- CodeKept, walked. -/
import Derived.Test.YtcmneinhcfejhaaIP
import Derived.Test.YtcmneinhcfejhaaYP
import Derived.Test.YtcmneinhcfejhaaKn
namespace Go.Proofs.Ytcmneinhcfejhaa
open Go.RowKit

theorem KI.IsBk.keep {B pb : Nat} {w w' : World} {L W : Value} {held : Int} {its : List KI.It} (h : KI.IsBk B pb w L W held its)
    (hb : ∀ (k : Nat) (cs : Array Value) (T : TypeId), w.heap[k]? = some (.cells cs T (0, 0)) → (T = 33 ∨ T = 25 ∨ T = 48) → w'.heap[k]? = w.heap[k]?) : KI.IsBk B pb w' L W held its := by
  have own : ∀ {n : Nat} {v : Value} {xs : List Value}, w.ownsRow B 33 4 v n xs → w'.ownsRow B 33 4 v n xs := fun ho =>
    KI.own_keep ho fun g cur _ hc => hb g cur 33 hc (.inl rfl)
  exact ⟨(hb pb _ 48 h.blk (.inr (.inr rfl))).trans h.blk, h.sl.keep fun g hg _ => by obtain ⟨-, cur, hc⟩ := h.sl.lt g hg; exact hb g cur 25 hc (.inr (.inl rfl)), h.sw.keep fun g hg _ => by obtain ⟨-, cur, hc⟩ := h.sw.lt g hg; exact hb g cur 25 hc (.inr (.inl rfl)), h.ne, fun p hp => ⟨own (h.fine p hp).l, own (h.fine p hp).c, (h.fine p hp).b⟩, h.away⟩
theorem KY.IsBk.keep {B pb : Nat} {w w' : World} {L W : Value} {held : Int} {its : List KY.It} (h : KY.IsBk B pb w L W held its)
    (hb : ∀ (k : Nat) (cs : Array Value) (T : TypeId), w.heap[k]? = some (.cells cs T (0, 0)) → (T = 5 ∨ T = 29 ∨ T = 51) → w'.heap[k]? = w.heap[k]?) : KY.IsBk B pb w' L W held its := by
  have own : ∀ {n : Nat} {v : Value} {xs : List Value}, w.ownsRow B 5 1 v n xs → w'.ownsRow B 5 1 v n xs := fun ho =>
    KY.own_keep ho fun g cur _ hc => hb g cur 5 hc (.inl rfl)
  exact ⟨(hb pb _ 51 h.blk (.inr (.inr rfl))).trans h.blk, h.sl.keep fun g hg _ => by obtain ⟨-, cur, hc⟩ := h.sl.lt g hg; exact hb g cur 29 hc (.inr (.inl rfl)), h.sw.keep fun g hg _ => by obtain ⟨-, cur, hc⟩ := h.sw.lt g hg; exact hb g cur 29 hc (.inr (.inl rfl)), h.ne, fun p hp => ⟨own (h.fine p hp).l, own (h.fine p hp).c, (h.fine p hp).b⟩, h.away⟩
theorem KI.IsBk.below {B pb : Nat} {w w' : World} {L W : Value} {held : Int} {its : List KI.It} (h : KI.IsBk B pb w L W held its) (hb : Below w.heap.size w w') : KI.IsBk B pb w' L W held its := h.keep fun k _ _ hk _ => hb.block k (Array.getElem?_eq_some_iff.1 hk).1
theorem KY.IsBk.below {B pb : Nat} {w w' : World} {L W : Value} {held : Int} {its : List KY.It} (h : KY.IsBk B pb w L W held its) (hb : Below w.heap.size w w') : KY.IsBk B pb w' L W held its := h.keep fun k _ _ hk _ => hb.block k (Array.getElem?_eq_some_iff.1 hk).1
theorem KI.IsBk.new {B pb n : Nat} {w w' : World} {L W vl : Value} {held : Int} {its : List KI.It} {xs : List Value} (h : KI.IsBk B pb w L W held its) (ho : w'.ownsRow w.heap.size 33 4 vl n xs) : ∀ p ∈ its, ∀ g, p.l.ownBlock = some g → vl.ownBlock ≠ some g := by
  intro p hp g hg e
  have h1 := (ho.lt g e).1
  have h2 := ((h.fine p hp).l.lt g hg).2
  omega
theorem KY.IsBk.new {B pb n : Nat} {w w' : World} {L W vl : Value} {held : Int} {its : List KY.It} {xs : List Value} (h : KY.IsBk B pb w L W held its) (ho : w'.ownsRow w.heap.size 5 1 vl n xs) : ∀ p ∈ its, ∀ g, p.l.ownBlock = some g → vl.ownBlock ≠ some g := by
  intro p hp g hg e
  have h1 := (ho.lt g e).1
  have h2 := ((h.fine p hp).l.lt g hg).2
  omega
/-- What one book does the other one does not see. -/
theorem KY.IsBk.kp {B pb B' pb' : Nat} {w w' : World} {L W : Value} {held : Int} {its : List KY.It} (h : KY.IsBk B pb w L W held its) {L' W' : Value} {held' : Int} {its' : List KI.It} (h' : KI.IsBk B' pb' w L' W' held' its') (k : KI.Kp B' pb' w w') : KY.IsBk B pb w' L W held its :=
  h.keep fun i cs T hi hT => k.block i (Array.getElem?_eq_some_iff.1 hi).1 (other_block hi h'.blk (by rcases hT with rfl | rfl | rfl <;> decide)) (.inr fun cs' e => by rw [hi] at e; cases e; rcases hT with h | h | h <;> cases h)
theorem KI.IsBk.kp {B pb B' pb' : Nat} {w w' : World} {L W : Value} {held : Int} {its : List KI.It} (h : KI.IsBk B pb w L W held its) {L' W' : Value} {held' : Int} {its' : List KY.It} (h' : KY.IsBk B' pb' w L' W' held' its') (k : KY.Kp B' pb' w w') : KI.IsBk B pb w' L W held its :=
  h.keep fun i cs T hi hT => k.block i (Array.getElem?_eq_some_iff.1 hi).1 (other_block hi h'.blk (by rcases hT with rfl | rfl | rfl <;> decide)) (.inr fun cs' e => by rw [hi] at e; cases e; rcases hT with h | h | h <;> cases h)
theorem own_kpY {B pb n Bo e s : Nat} {w w' : World} {v : Value} {xs : List Value} {L W : Value} {held : Int} {its : List KI.It} (ho : w.ownsRow Bo e s v n xs) (h : KI.IsBk B pb w L W held its) (k : KI.Kp B pb w w') (h48 : e ≠ 48) (h25 : e ≠ 25) : w'.ownsRow Bo e s v n xs :=
  KI.own_keep ho fun g _ _ hc => k.block g (Array.getElem?_eq_some_iff.1 hc).1 (other_block hc h.blk h48) (.inr fun cs' e' => by rw [hc] at e'; cases e'; exact h25 rfl)

theorem dec_lenL (b : List Int) : ∀ (f p : Nat) (acc : List IN), acc.length ≤ p → p ≤ b.length → (decL5 b f p acc).1.length ≤ b.length
  | 0, p, acc, h, hp => by unfold decL5; simp only; omega
  | f + 1, p, acc, h, hp => by
    unfold decL5
    split
    · simp only; omega
    · rename_i op t hd
      split
      · simp
      · rename_i hk
        split
        · simp
        · have hs := sz_pos hk
          exact dec_lenL b f _ _ (by simp; omega) (by omega)
theorem dec_len (b : List Int) : (decZ5 b).1.length ≤ 1024 := by
  unfold decZ5
  split
  · simp
  · have := dec_lenL b b.length 0 [] (Nat.le_refl _) (Nat.zero_le _)
    omega
theorem enc_lenL : ∀ (l : List IN) (out : List Int), (encL l out).1.length ≤ 1024
  | [], out => by
    unfold encL
    split
    · simp
    · simp only; omega
  | i :: l, out => by
    rw [enc_step]
    split
    · simp
    · split
      · simp
      · split
        · simp
        · exact enc_lenL l _
theorem enc_len (l : List IN) : (encL l []).1.length ≤ 1024 := enc_lenL l []
set_option maxRecDepth 20000 in
set_option maxHeartbeats 8000000 in
theorem kept_any (vb : Value) (b : List Int) (w : World) (hv : View w vb b) : Calls Try.prog 7 #[vb] w fun e w' => e = .returned (.bool true) ∧ Below w.heap.size w w' := by
  have b0 : Below w.heap.size w (w.alloc (.cells #[.slice none 0 0, .slice none 0 0, .int .i64 0, .bool false] 48)) := below_alloc w _
  have b1 := b0.trans ((below_alloc (w.alloc (.cells #[.slice none 0 0, .slice none 0 0, .int .i64 0, .bool false] 48)) (.cells #[.slice none 0 0, .slice none 0 0, .int .i64 0, .bool false] 51)).mono b0.size)
  have HI0 : Hid (KI.IsBk (w.heap.size + 2) w.heap.size ((w.alloc (.cells #[.slice none 0 0, .slice none 0 0, .int .i64 0, .bool false] 48)).alloc (.cells #[.slice none 0 0, .slice none 0 0, .int .i64 0, .bool false] 51)) (.slice none 0 0) (.slice none 0 0) 0 []) :=
    ⟨(heap_alloc_old _ _ (by simp)).trans (heap_alloc_new w _), .inl ⟨rfl, rfl⟩, .inl ⟨rfl, rfl⟩, fun g h => by simp [Value.ownBlock] at h, by simp, List.Pairwise.nil⟩
  have hn := heap_alloc_new (w.alloc (.cells #[.slice none 0 0, .slice none 0 0, .int .i64 0, .bool false] 48)) (.cells #[.slice none 0 0, .slice none 0 0, .int .i64 0, .bool false] 51)
  rw [show (w.alloc (.cells #[.slice none 0 0, .slice none 0 0, .int .i64 0, .bool false] 48)).heap.size = w.heap.size + 1 by simp] at hn
  have HY0 : Hid (KY.IsBk (w.heap.size + 2) (w.heap.size + 1) ((w.alloc (.cells #[.slice none 0 0, .slice none 0 0, .int .i64 0, .bool false] 48)).alloc (.cells #[.slice none 0 0, .slice none 0 0, .int .i64 0, .bool false] 51)) (.slice none 0 0) (.slice none 0 0) 0 []) :=
    ⟨hn, .inl ⟨rfl, rfl⟩, .inl ⟨rfl, rfl⟩, fun g h => by simp [Value.ownBlock] at h, by simp, List.Pairwise.nil⟩
  have B0 := hidIt b1
  have HV := hidIt hv
  have HD := hidIt (fun V W h => decode_any V b W h)
  have hDL : (decZ5 b).1.length ≤ 1024 := dec_len b
  generalize decZ5 b = Z at *
  obtain ⟨m, why, place⟩ := Z
  simp only at HD hDL
  obtain ⟨ao, cap, rfl, hc, hm, _, _⟩ := id hv
  unfold maxLen at hm
  have z0 : w.heap.size + 2 ≤ ((w.alloc (.cells #[.slice none 0 0, .slice none 0 0, .int .i64 0, .bool false] 48)).alloc (.cells #[.slice none 0 0, .slice none 0 0, .int .i64 0, .bool false] 51)).heap.size := by simp
  clear hv b0 b1 hn
  go_enter Try.func7, Try.ntmps7
  go_wp2_with fail
  generalize (w.alloc (.cells #[.slice none 0 0, .slice none 0 0, .int .i64 0, .bool false] 48)).alloc (.cells #[.slice none 0 0, .slice none 0 0, .int .i64 0, .bool false] 51) = w0 at *
  go_loopw [5] (fun i wr => ∃ (k : Nat) (L W L2 W2 : Value) (held held2 : Int) (its : List KI.It) (its2 : List KY.It), i = .int .i64 (k : Int) ∧ k ≤ 2 ∧ KI.IsBk (w.heap.size + 2) w.heap.size wr L W held its ∧ KY.IsBk (w.heap.size + 2) (w.heap.size + 1) wr L2 W2 held2 its2 ∧ its.length ≤ k ∧ its2.length ≤ k ∧ Below w.heap.size w wr ∧ w.heap.size + 2 ≤ wr.heap.size) (fun i _ => 2 - (intOf i).toNat)
  case atStart => exact ⟨0, _, _, _, _, _, _, [], [], rfl, by omega, HI0.out, HY0.out, by simp, by simp, B0.out, z0⟩
  case round =>
    clear HI0 HY0 B0 z0
    obtain ⟨k, L, W, L2, W2, held, held2, its, its2, rfl, hk, hI, hY, hln, hln2, hbw, hz⟩ := hrel
    have HI := hidIt hI
    have HY := hidIt hY
    have HB := hidIt hbw
    clear hI hY hbw
    by_cases hlt : k < 2
    · have hlt' : (k : Int) < 2 := by omega
      have G1 := hidIt (HD.out _ wr (HV.out.below HB.out))
      go_wp2_with fail
      refine G1.out.mono ?_
      rintro e w1 ⟨b1, v1, rfl, o1⟩
      have B1 := hidIt (HB.out.trans (b1.mono HB.out.size))
      have HI1 := hidIt (HI.out.below b1)
      have HY1 := hidIt (HY.out.below b1)
      have HN1 := hidIt (HI.out.new o1)
      have HO1 := hidIt (own_wk (B' := w.heap.size + 2) o1 hz)
      have z1 := b1.size
      have G2 := hidIt (encode_any v1 m w1 (IView.of_own o1) (by omega))
      have HAB := hidIt (enc_bytes m [] AllBytes.nil)
      have hEL : (encL m []).1.length ≤ 1024 := enc_len m
      generalize encL m [] = ZE at *
      obtain ⟨zc, zf⟩ := ZE
      simp only at G2 HAB hEL
      obtain ⟨ao1, cap1, rfl⟩ := own_slice o1
      clear G1 b1 o1 HI HY HB
      go_wp2_with fail
      refine G2.out.mono ?_
      rintro e w2 ⟨b2, v2, rfl, o2⟩
      have B2 := hidIt (B1.out.trans (b2.mono B1.out.size))
      have HI2 := hidIt (HI1.out.below b2)
      have HY2 := hidIt (HY1.out.below b2)
      have HN2 := hidIt (HY1.out.new o2)
      have HO1' := hidIt (own_below HO1.out b2)
      have HO2 := hidIt (own_wk (B' := w.heap.size + 2) o2 (by omega))
      have z2 := b2.size
      obtain ⟨ao2, cap2, rfl⟩ := own_slice o2
      have GK := hidIt (KI.keep_any (w.heap.size + 2) w.heap.size L W _ held its m w2 HI2.out HO1'.out trivial HN1.out (by omega) (by omega) (by omega) (by omega))
      clear G2 b2 o2 HI1 HY1 B1 HN1 HO1
      go_wp2_with fail
      refine GK.out.mono ?_
      rintro e w3 ⟨rfl, K3, L', W', held', its', hI3, hl3, -⟩
      have B3 := hidIt (B2.out.trans (K3.below (by omega) (Nat.le_refl _) (by omega)))
      have HY3 := hidIt (HY2.out.kp HI2.out K3)
      have HO3 := hidIt (own_kpY HO2.out HI2.out K3 (by decide) (by decide))
      have HI3 := hidIt hI3
      have z3 := K3.size
      have GY := hidIt (KY.keep_any (w.heap.size + 2) (w.heap.size + 1) L2 W2 _ held2 its2 zc w3 HY3.out HO3.out HAB.out HN2.out (by omega) (by omega) (by omega) (by omega))
      clear GK K3 hI3 HI2 HY2 HO1' HO2 B2 HN2
      go_wp2_with fail
      refine GY.out.mono ?_
      rintro e w4 ⟨rfl, K4, L2', W2', held2', its2', hY4, hl4, -⟩
      have B4 := B3.out.trans (K4.below (by omega) (by omega) (by omega))
      have hI4 := HI3.out.kp HY3.out K4
      have z4 := K4.size
      clear GY K4 HI3 HY3 HO3 B3
      go_wp2
      exact ⟨⟨k + 1, L', W', L2', W2', held', held2', its', its2', by go_num, by omega, hI4, hY4, by omega, by omega, B4, by omega⟩, by simp [intOf]; omega⟩
    · have hlt' : ¬ (k : Int) < 2 := by omega
      have GA := hidIt (KI.apart_any (w.heap.size + 2) w.heap.size w.heap.size L W held its wr HI.out (by omega) (by omega) (Nat.le_refl _) (by omega))
      go_wp2_with fail
      refine GA.out.mono ?_
      rintro e w1 ⟨rfl, b1, s1⟩
      have B1 := hidIt (HB.out.trans b1)
      have HY1 := hidIt (HY.out.keep (w' := w1) fun i cs T hi hT => s1 i cs T hi (by rcases hT with rfl | rfl | rfl <;> decide) (by rcases hT with rfl | rfl | rfl <;> decide) (by rcases hT with rfl | rfl | rfl <;> decide))
      have z1 := b1.size
      have GB := hidIt (KY.apart_any (w.heap.size + 2) (w.heap.size + 1) w.heap.size L2 W2 held2 its2 w1 HY1.out (by omega) (by omega) (by omega) (by omega))
      clear GA b1 s1 HI HY HB
      go_wp2_with fail
      refine GB.out.mono ?_
      rintro e w2 ⟨rfl, b2⟩
      have B2 := hidIt (B1.out.trans b2)
      have GK := hidIt (known_any w2)
      clear GB b2 B1 HY1
      go_wp2_with fail
      refine GK.out.mono ?_
      rintro e w3 ⟨rfl, b3⟩
      have B3 := hidIt (B2.out.trans (b3.mono B2.out.size))
      clear b3 GK B2
      go_wp2
      go_ret
      exact ⟨rfl, B3.out⟩
end Go.Proofs.Ytcmneinhcfejhaa
