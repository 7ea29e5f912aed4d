/- MutfKept, walked. -/
import Derived.Test.YtnnoifofgbibmabDoorKP
namespace Go.Proofs.YtnnoifofgbibmabDoor
open Go.RowKit

theorem IsBk.apart {B pb : Nat} {w : World} {L W : Value} {held : Int} {its : List It} (h : IsBk B pb w L W held its) {m : List Int} {g off : Nat} (hl : Lies w g off m) (hne : m ≠ []) : g ≠ pb := by
  rintro rfl
  obtain ⟨x, r, rfl⟩ := List.exists_cons_of_ne_nil hne
  have := hl 0 x rfl
  rw [cell_of_row w g (off + 0) _ 25 (0, 0) h.blk] at this
  obtain ⟨_, _, rfl, _⟩ := h.sl.form
  obtain ⟨_, _, rfl, _⟩ := h.sw.form
  match off, this with
  | 0, this => simp at this
  | 1, this => simp at this
  | 2, this => simp at this
  | 3, this => simp at this
  | k + 4, this => simp at this
theorem IsBk.move {B pb : Nat} {w w' : World} {L W : Value} {held : Int} {its : List It} (h : IsBk B pb w L W held its) (hb : ∀ k, k < w.heap.size → (B ≤ k ∨ k = pb) → w'.heap[k]? = w.heap[k]?) : IsBk B pb w' L W held its := by
  have own : ∀ {n : Nat} {v : Value} {xs : List Value}, w.ownsRow B 5 1 v n xs → w'.ownsRow B 5 1 v n xs := fun ho =>
    own_keep ho fun g cur hg hc => hb g (Array.getElem?_eq_some_iff.1 hc).1 (.inl (ho.lt g hg).1)
  exact ⟨(hb pb (Array.getElem?_eq_some_iff.1 h.blk).1 (.inr rfl)).trans h.blk, h.sl.keep fun g hg hlt => hb g hlt (.inl (h.sl.lt g hg).1), h.sw.keep fun g hg hlt => hb g hlt (.inl (h.sw.lt g hg).1), h.ne, fun p hp => ⟨own (h.fine p hp).l, own (h.fine p hp).c, (h.fine p hp).b⟩, h.away⟩
theorem IsBk.below {B pb : Nat} {w w' : World} {L W : Value} {held : Int} {its : List It} (h : IsBk B pb w L W held its) (hb : Below w.heap.size w w') : IsBk B pb w' L W held its := h.move fun k hk _ => hb.block k hk
theorem IsBk.only {B pb pr : Nat} {w w' : World} {L W : Value} {held : Int} {its : List It} (h : IsBk B pb w L W held its) (ho : Only pr w w') (h1 : pr < B) (h2 : pr ≠ pb) : IsBk B pb w' L W held its :=
  h.move fun k hk hc => ho.block k hk (by rcases hc with hc | hc <;> omega)
theorem IsBk.new {B pb n : Nat} {w w' : World} {L W vl : Value} {held : Int} {its : List It} {xs : List Value} (h : IsBk B pb w L W held its) (ho : w'.ownsRow w.heap.size 5 1 vl n xs) : ∀ p ∈ its, ∀ g, p.l.ownBlock = some g → vl.ownBlock ≠ some g := by
  intro p hp g hg e
  have h1 := (ho.lt g e).1
  obtain ⟨cur, hc⟩ := (Mem.of_own (h.fine p hp).l).five hg
  have h2 := (Array.getElem?_eq_some_iff.1 hc).1
  omega

theorem IsW.kp {B B' pb pw : Nat} {w w' : World} {L W v : Value} {held : Int} {its : List It} {l : List Int} (h : IsW B' pw w v l) (hk : IsBk B pb w L W held its) (k : Kp B pb w w') : IsW B' pw w' v l :=
  ⟨(k.block pw h.lt (other_block h.at_ hk.blk (by decide)) (.inr fun cs e => by rw [h.at_] at e; cases e)).trans h.at_, k.own h.own hk.no5⟩
theorem IsW.only {B' pw pr a : Nat} {w w' : World} {v vr : Value} {l lr : List Int} {y : Int} (h : IsW B' pw w v l) (hr : IsR pr w vr lr a y) (ho : Only pr w w') : IsW B' pw w' v l :=
  ⟨(ho.block pw h.lt (other_block h.at_ hr.blk (by decide))).trans h.at_, own_keep h.own fun g cur _ hc => ho.block g (Array.getElem?_eq_some_iff.1 hc).1 (other_block hc hr.blk (by decide))⟩
theorem IsR.kp {B pb pr a : Nat} {w w' : World} {L W v : Value} {held : Int} {its : List It} {l : List Int} {y : Int} (h : IsR pr w v l a y) (hk : IsBk B pb w L W held its) (k : Kp B pb w w') (hv : l ≠ [] → ∀ g, v.ownBlock = some g → g < B) : IsR pr w' v l a y := by
  refine ⟨(k.block pr h.lt (other_block h.blk hk.blk (by decide)) (.inr fun cs e => by rw [h.blk] at e; cases e)).trans h.blk, ?_, h.le⟩
  obtain ⟨ao, cap, rfl, hc, hm, hy, hl⟩ := h.view
  refine ⟨ao, cap, rfl, hc, hm, hy, ?_⟩
  rcases hl with h | ⟨g, off, e, hl⟩
  · exact .inl h
  · by_cases hne : l = []
    · exact .inl hne
    · refine .inr ⟨g, off, e, fun j x hj => ?_⟩
      have hlt : g < w.heap.size := World.block_lt_of_cell? w ⟨g, off + j, none⟩ (hl j x hj)
      rw [World.cell?_of_block (a := ⟨g, off + j, none⟩) (k.block g hlt (hk.apart hl hne) (.inl (hv hne g (by rw [e]; rfl))))]
      exact hl j x hj

theorem encode_both (s : ByteArray) (w : World) (hT : Tabs w) (hs : s.size ≤ 4294967296) :
    Calls Tryd.prog 8 #[.string s] w fun e w' => Below w.heap.size w w' ∧ ∃ v m z, e = .returned (.tuple #[v, .int .i64 z]) ∧ w'.ownsRow w.heap.size 5 1 v m.length (bcells m) ∧ AllBytes m ∧ m.length ≤ 1099511627776 := by
  cases hvd : Lib.validD s.data.toList with
  | false => exact (encode_no s w hT (by omega) hvd).mono fun e w' ⟨he, hb⟩ => ⟨hb, _, [], _, he, World.ownsRow_nil _ _ _ _, AllBytes.nil, by simp⟩
  | true =>
    have hel := encFrom_len s s.size 0
    exact (encode_yes s w hT (by omega) hvd).mono fun e w' ⟨hb, v, he, ho⟩ => ⟨hb, v, _, _, he, ho, encZ_bytes s, by unfold encZ; omega⟩

set_option maxHeartbeats 4000000 in
set_option maxRecDepth 20000 in
theorem kept_any (s : ByteArray) (vb : Value) (lb : List Int) (w : World) (hT : Tabs w) (hs : s.size ≤ 1048576) (hv : View w vb lb) (hlb : lb.length ≤ 1048576) :
    Calls Tryd.prog 3 #[.string s, vb] w fun e w' => e = .returned (.bool true) ∧ Below w.heap.size w w' := by
  obtain ⟨ao, cap, rfl, hc, hm, hby, -⟩ := id hv
  go_enter Tryd.func3, Tryd.ntmps3
  go_wp2_with fail
  have hz0 : (w.alloc (.cells #[.slice none 0 0, .slice none 0 0, .int .i64 0, .bool false] 25)).heap.size = w.heap.size + 1 := by simp
  have b0 : Below w.heap.size w (w.alloc (.cells #[.slice none 0 0, .slice none 0 0, .int .i64 0, .bool false] 25)) := (Below.refl _ _).alloc (Nat.le_refl _) _
  have k0 := heap_alloc_new w (.cells #[.slice none 0 0, .slice none 0 0, .int .i64 0, .bool false] 25)
  generalize w.alloc (.cells #[.slice none 0 0, .slice none 0 0, .int .i64 0, .bool false] 25) = w0 at *
  obtain ⟨pw, hpw⟩ : ∃ pw, w0.heap.size = pw := ⟨_, rfl⟩
  have HPW : Hid (pw = w.heap.size + 1) := by rw [← hpw]; exact hz0
  clear hz0
  have hpw1 : w.heap.size < pw := by have := HPW.out; omega
  refine (newW_any w0).mono ?_
  rintro e w1 ⟨rfl, hw1⟩
  have W1 : IsW 0 pw w1 (.slice none 0 0) [] := by rw [hw1, ← hpw]; exact newW_is w0 _
  have b1 : Below w0.heap.size w0 w1 := by rw [hw1]; exact (Below.refl _ _).alloc (Nat.le_refl _) _
  clear hw1
  have z1 := b1.size
  have pwl := W1.lt
  have V1 : View w1 (.slice ao lb.length cap) lb := hv.below (b0.trans (b1.mono (by omega)))
  go_wp2_with fail
  refine (newR_any _ lb w1 V1 (by omega)).mono ?_
  rintro e w2 ⟨b2, pr, v2, rfl, hpr, R2, hv2⟩
  have z2 := b2.size
  have prl := R2.lt
  have W2 := W1.below b2
  have V2 := V1.below b2
  go_wp2_with fail
  refine (wbytes_any 0 pw _ _ [] lb w2 W2 V2 (Nat.zero_le _) (by simp; omega)).mono ?_
  rintro e w3 ⟨rfl, v3, W3, st3⟩
  rw [List.nil_append] at W3
  have z3 := st3.size
  have hst : ∀ k, k < w2.heap.size → k ≠ pw → w3.heap[k]? = w2.heap[k]? := fun k hk hne => st3.block k hk hne (by simp [Value.ownBlock])
  have R3 : IsR pr w3 v2 lb 0 0 := by
    refine ⟨(hst pr prl (by omega)).trans R2.blk, ?_, R2.le⟩
    exact R2.view.only ⟨st3.os, st3.tape, st3.output, st3.size, fun k hk hne => hst k hk hne⟩ (fun g off hl hne => by
      rintro rfl
      obtain ⟨x, r, rfl⟩ := List.exists_cons_of_ne_nil hne
      have := hl 0 x rfl
      rw [cell_of_row w2 _ (off + 0) _ 43 (0, 0) W2.at_] at this
      match off, this with
      | 0, this => simp at this
      | k + 1, this => simp at this)
  have k3 : w3.heap[w.heap.size]? = some (.cells #[.slice none 0 0, .slice none 0 0, .int .i64 0, .bool false] 25 (0, 0)) := by
    rw [hst _ (by omega) (by omega), b2.block _ (by omega), b1.block _ (by omega)]
    exact k0
  have b3 : Below w.heap.size w w3 := by
    refine (b0.trans ((b1.mono (by omega)).trans (b2.mono (by omega)))).trans ⟨st3.os, st3.tape, st3.output, st3.size, fun k hk => hst k (by omega) (by omega)⟩
  have hv3 : lb ≠ [] → ∀ g, v2.ownBlock = some g → g < w3.heap.size := by
    intro hne g hg
    obtain ⟨ao2, cap2, rfl, -, -, -, hl⟩ := R3.view
    rcases hl with h | ⟨g', off, rfl, hl⟩
    · exact absurd h hne
    · simp only [Value.ownBlock, Option.some.injEq] at hg
      subst hg
      obtain ⟨x, r, rfl⟩ := List.exists_cons_of_ne_nil hne
      exact World.block_lt_of_cell? w3 ⟨g', off + 0, none⟩ (hl 0 x rfl)
  have H3 : IsBk w3.heap.size w.heap.size w3 (.slice none 0 0) (.slice none 0 0) 0 [] := ⟨k3, .inl ⟨rfl, rfl⟩, .inl ⟨rfl, rfl⟩, fun g hg => by simp [Value.ownBlock] at hg, fun p hp => by simp at hp, List.Pairwise.nil⟩
  obtain ⟨B, hB⟩ : ∃ B, B = w3.heap.size := ⟨_, rfl⟩
  rw [← hB] at H3
  rw [← hB] at hv3
  have hprB : pr < B := by omega
  have hpbB : w.heap.size < B := by omega
  have hrp : pr ≠ w.heap.size := by omega
  clear R2 W2 V2 W1 V1 k0 k3 hst st3 b0 b1 b2 hv2
  go_wp2_with fail
  go_loopw [8] (fun i wr => ∃ (k : Nat) (L W : Value) (held : Int) (its : List It) (a : Nat) (y : Int), k ≤ 2 ∧ i = .int .i64 (k : Int) ∧ its.length ≤ 3 * k ∧ IsBk B w.heap.size wr L W held its ∧ IsW 0 pw wr v3 lb ∧ IsR pr wr v2 lb a y ∧ Below w.heap.size w wr ∧ B ≤ wr.heap.size) (fun i _ => 2 - (intOf i).toNat)
  case atStart => exact ⟨0, _, _, _, [], 0, 0, by omega, rfl, by simp, H3, W3, R3, b3, by omega⟩
  case round =>
    clear H3 W3 R3 b3
    obtain ⟨k, L, W, held, its, a, y, hk, rfl, hil, Hb, Hw, Hr, hbw, hBw⟩ := hrel
    by_cases hlt : k < 2
    · have hk' : (k : Int) < 2 := by omega
      have FIN : Hid (∀ (W9 : World) (L' W' : Value) (held' : Int) (its' : List It) (a' : Nat) (y' : Int), its'.length ≤ 3 * (k + 1) → IsBk B w.heap.size W9 L' W' held' its' → IsW 0 pw W9 v3 lb → IsR pr W9 v2 lb a' y' → Below w.heap.size w W9 → B ≤ W9.heap.size →
          (∃ (k' : Nat) (L W : Value) (held : Int) (its : List It) (a : Nat) (y : Int), k' ≤ 2 ∧ Value.int .i64 ((k : Int) + 1) = .int .i64 (k' : Int) ∧ its.length ≤ 3 * k' ∧ IsBk B w.heap.size W9 L W held its ∧ IsW 0 pw W9 v3 lb ∧ IsR pr W9 v2 lb a y ∧ Below w.heap.size w W9 ∧ B ≤ W9.heap.size) ∧ 2 - (intOf (.int .i64 ((k : Int) + 1))).toNat < 2 - (intOf (.int .i64 (k : Int))).toNat) := by
        intro W9 L' W' held' its' a' y' h1 h2 h3 h4 h5 h6
        exact ⟨⟨k + 1, L', W', held', its', a', y', by omega, by go_num, h1, h2, h3, h4, h5, h6⟩, by simp [intOf]; omega⟩
      go_wp2_with fail
      refine (encode_both s wr (hT.below hbw) (by omega)).mono ?_
      rintro e w4 ⟨b4, v4, m4, y4, rfl, o4, am4, lm4⟩
      have z4 := b4.size
      have Hb4 := Hb.below b4
      have Hw4 := Hw.below b4
      have Hr4 := Hr.below b4
      obtain ⟨ao4, cap4, rfl⟩ := own_slice o4
      go_wp2_with fail
      refine (keep_any B w.heap.size L W _ held its m4 w4 Hb4 (own_wk o4 hBw) am4 (Hb.new o4) (by omega) lm4 (by omega) hpbB).mono ?_
      rintro e w5 ⟨rfl, K5, L5, W5, held5, its5, Hb5, l5, -⟩
      have z5 := K5.size
      have Hw5 := Hw4.kp Hb4 K5
      have Hr5 := Hr4.kp Hb4 K5 hv3
      go_wp2_with fail
      refine (done_any 0 pw v3 lb w5 Hw5 hby (by omega)).mono ?_
      rintro e w6 ⟨b6, v6, rfl, o6⟩
      have z6 := b6.size
      have Hb6 := Hb5.below b6
      have Hw6 := Hw5.below b6
      have Hr6 := Hr5.below b6
      obtain ⟨ao6, cap6, rfl⟩ := own_slice o6
      go_wp2_with fail
      refine (keep_any B w.heap.size L5 W5 _ held5 its5 lb w6 Hb6 (own_wk o6 (by omega)) hby (Hb5.new o6) (by omega) (by omega) (by omega) hpbB).mono ?_
      rintro e w7 ⟨rfl, K7, L7, W7, held7, its7, Hb7, l7, -⟩
      have z7 := K7.size
      have Hw7 := Hw6.kp Hb6 K7
      have Hr7 := Hr6.kp Hb6 K7 hv3
      have HTB : AllBytes (tk lb a y 2).1 := by
        unfold tk
        split
        · exact AllBytes.nil
        · split
          · exact AllBytes.nil
          · exact fun x hx => hby x (List.mem_of_mem_drop (List.mem_of_mem_take hx))
      have HTL : (tk lb a y 2).1.length ≤ 1048576 := by
        unfold tk
        split
        · simp
        · split
          · simp
          · simp only [List.length_take, List.length_drop]; omega
      go_wp2_with fail
      refine (rbytes_any pr v2 lb a y 2 w7 Hr7 (by omega)).mono ?_
      generalize tk lb a y 2 = T at *
      obtain ⟨m8, a8, y8⟩ := T
      simp only at HTB HTL
      rintro e w8 ⟨v8, rfl, o8, Hr8, O8⟩
      simp only at o8 Hr8
      have z8 := O8.size
      have Hb8 := Hb7.only O8 hprB hrp
      have Hw8 := Hw7.only Hr7 O8
      obtain ⟨ao8, cap8, rfl⟩ := own_slice o8
      go_wp2_with fail
      refine (keep_any B w.heap.size L7 W7 _ held7 its7 m8 w8 Hb8 (own_wk o8 (by omega)) HTB (Hb7.new o8) (by omega) (by omega) (by omega) hpbB).mono ?_
      rintro e w9 ⟨rfl, K9, L9, W9, held9, its9, Hb9, l9, -⟩
      have z9 := K9.size
      have Hw9 := Hw8.kp Hb8 K9
      have Hr9 := Hr8.kp Hb8 K9 hv3
      have HZ : Hid (Below w.heap.size w w9) := by
        have e1 := hbw.trans (b4.mono hbw.size)
        have e2 := e1.trans (K5.below e1.size (Nat.le_refl _) (by omega))
        have e3 := e2.trans (b6.mono e2.size)
        have e4 := e3.trans (K7.below e3.size (Nat.le_refl _) (by omega))
        have e5 := e4.trans (O8.below e4.size (by omega))
        exact e5.trans (K9.below e5.size (Nat.le_refl _) (by omega))
      go_wp2_with fail
      exact FIN.out w9 L9 W9 held9 its9 a8 y8 (by omega) Hb9 Hw9 Hr9 HZ.out (by omega)
    · have hk' : ¬ (k : Int) < 2 := by omega
      have HA := hidIt (apart_any B w.heap.size w.heap.size L W held its wr Hb (by omega) hbw.size (Nat.le_refl _) (by omega))
      go_wp2_with fail
      refine HA.out.mono ?_
      rintro e w5 ⟨rfl, b5⟩
      have hB5 := hbw.trans b5
      go_wp2_with fail
      refine (known_any _ (hT.below hB5)).mono ?_
      rintro e w6 ⟨rfl, b6⟩
      go_wp2
      go_ret
      exact ⟨rfl, hB5.trans (b6.mono hB5.size)⟩
end Go.Proofs.YtnnoifofgbibmabDoor
