/- The document's own Number and Text. -/
import Derived.Test.YthagaldpopnoeaaGreatDoorRef
import Derived.Test.YthagaldpopnoeaaGreatDoorWrT
namespace Go.Proofs.YthagaldpopnoeaaGreatDoor
open Go.RowKit

set_option maxRecDepth 8000 in
set_option maxHeartbeats 400000 in
theorem refwidth_any (n : Int) (w : World) :
    Calls Tryz.prog 63 #[.int .i64 n] w fun e w' => e = .returned (.int .i64 (min (max n 1) 8)) ∧ w' = w := by
  by_cases h1 : n < 1
  · rw [show min (max n 1) 8 = 1 by omega]
    go_enter Tryz.func63, Tryz.ntmps63
    go_wp2
    go_ret
    exact ⟨rfl, rfl⟩
  · by_cases h8 : 8 < n
    · rw [show min (max n 1) 8 = 8 by omega]
      go_enter Tryz.func63, Tryz.ntmps63
      go_wp2
      go_ret
      exact ⟨rfl, rfl⟩
    · rw [show min (max n 1) 8 = n by omega]
      go_enter Tryz.func63, Tryz.ntmps63
      go_wp2
      go_ret
      exact ⟨rfl, rfl⟩

theorem run_shru (w : World) (n : Int) (k : Nat) (hk : k ≤ 7) : (Op.shift .shr .u64 n .u64 (8 * (k : Int))).run Tryz.prog w = .ok (.int .u64 (n / 2 ^ (8 * k))) w := by
  have h1 : ¬ (8 * (k : Int) < 0) := by omega
  have h2 : min (8 * (k : Int)).toNat IntKind.u64.bits = 8 * k := by simp [IntKind.bits]; omega
  have h3 : (0 : Int) ≤ 2 ^ (8 * k) := Int.pow_nonneg (by decide)
  simp only [Op.shift, if_neg h1, h2, Sem.run_pure, Int.fdiv_eq_ediv_of_nonneg _ h3]

theorem wrap_u64e (n : Int) : IntKind.u64.wrap n = n % 18446744073709551616 := by simp [IntKind.wrap, IntKind.bits, IntKind.signed]
theorem byte_of (n : Int) (k : Nat) (hk : k ≤ 7) : n % 18446744073709551616 / 2 ^ (8 * k) % 256 = n / 2 ^ (8 * k) % 256 := by
  match k, hk with
  | 0, _ => simp
  | 1, _ => simp; omega
  | 2, _ => simp; omega
  | 3, _ => simp; omega
  | 4, _ => simp; omega
  | 5, _ => simp; omega
  | 6, _ => simp; omega
  | 7, _ => simp; omega

set_option maxRecDepth 8000 in
set_option maxHeartbeats 2000000 in
theorem refnum_any (v : Value) (l : List Int) (n bytes : Int) (w : World) (hv : View w v l) (hlen : l.length ≤ 1099511627776) :
    Calls Tryz.prog 30 #[v, .int .i64 n, .int .i64 bytes] w fun e w' => Below w.heap.size w w' ∧ ∃ u, e = .returned u ∧ w'.ownsRow w.heap.size 5 1 u (l ++ be n (min (max bytes 1) 8).toNat).length (bcells (l ++ be n (min (max bytes 1) 8).toNat)) := by
  obtain ⟨i0, hi, hz0, hz1, hz2⟩ := info_parts Tryz.info5
  obtain ⟨wd, hwd⟩ : ∃ wd : Nat, min (max bytes 1) 8 = (wd : Int) := ⟨(min (max bytes 1) 8).toNat, by omega⟩
  have hw8 : wd ≤ 8 := by omega
  have hw1 : 1 ≤ wd := by omega
  have HW : Hid (∀ wx, Calls Tryz.prog 63 #[.int .i64 bytes] wx fun e w' => e = .returned (.int .i64 (wd : Int)) ∧ w' = wx) := by
    intro wx
    have := refwidth_any bytes wx
    rwa [hwd] at this
  rw [hwd, Int.toNat_natCast]
  clear hwd
  have hown0 : (w.alloc (.cells #[] 5)).ownsRow w.heap.size 5 1 (.slice (some ⟨w.heap.size, 0, none⟩) 0 0) 0 [] := World.ownsRow_made w #[] 0 (Nat.le_refl _) (by unfold maxLen; omega) rfl
  have hv0 : View (w.alloc (.cells #[] 5)) v l := hv.below ((Below.refl _ _).alloc (Nat.le_refl _) _)
  go_enter Tryz.func30, Tryz.ntmps30
  go_wp2_with (first
    | (at_builtin; refine wpList_append_view rfl _ _ rfl w.heap.size (.slice (some ⟨w.heap.size, 0, none⟩) 0 0) v _ _ l rfl hown0 rfl hv0 (by omega) (by simp) ?_; intro v1 w1 ho1 hst1)
    | (go_at_call 63; refine (HW.out _).mono ?_; rintro e w' ⟨rfl, hww⟩; cases hww))
  have hb1 : Below w.heap.size w w1 := ((Below.refl _ _).alloc (Nat.le_refl _) _).trans (hst1.below (by simp) (fun k h => (hown0.lt k h).1))
  have ho1' : w1.ownsRow w.heap.size 5 1 v1 l.length (bcells l) := by simpa using ho1
  clear ho1 hst1 hown0 hv0 hv HW
  go_loopw [7, 8] (fun u i wr => ∃ (j : Nat) (acc : List Int), i = .int .i64 ((j : Int) - 1) ∧ wr.ownsRow w.heap.size 5 1 u (l ++ acc).length (bcells (l ++ acc)) ∧ Below w.heap.size w wr ∧ acc ++ be n j = be n wd ∧ j ≤ 8) (fun _ i _ => (intOf i + 1).toNat)
  case atStart => exact ⟨wd, [], rfl, by simpa using ho1', hb1, rfl, hw8⟩
  case round =>
    obtain ⟨j, acc, rfl, hI, hbw, hacc, hj8⟩ := hrel
    have HA := hidIt hacc
    have hsz := hbw.size
    clear hacc
    match j, HA, hj8 with
    | 0, HA, hj8 =>
      go_wp2
      go_ret
      have := HA.out
      simp only [be, List.append_nil] at this
      rw [← this]
      exact ⟨hbw, _, rfl, hI⟩
    | k + 1, HA, hj8 =>
      have hk0 : (0 : Int) ≤ (k : Int) := by omega
      have hk8 : (k : Int) ≤ 7 := by omega
      rw [show (((k + 1 : Nat) : Int) - 1) = (k : Int) by omega]
      have hal : (l ++ acc).length ≤ l.length + 8 := by
        have := congrArg List.length HA.out
        rw [List.length_append, be_len, be_len] at this
        rw [List.length_append]; omega
      have hwk : IntKind.i64.wrap (8 * (k : Int)) = 8 * (k : Int) := wraps_small _ (by omega) (by omega)
      have hsh : ∀ wx, (Op.shift .shr .u64 (n % 18446744073709551616) .u64 (8 * (k : Int))).run Tryz.prog wx = .ok (.int .u64 (n % 18446744073709551616 / 2 ^ (8 * k))) wx := fun wx => run_shru wx _ k (by omega)
      go_wp2_with (at_builtin; refine wpList_append_own_at _ rfl _ _ 22 rfl w.heap.size 5 i0 (.int .u8 0) 1 1 Tryz.underlying22 hi hz0 hz1 hz2 rfl (by decide) _ _ _ rfl (hI.alloc _) _ 1 1 [_] rfl rfl (cell_one_new _ _ _) (by intro u hu; simp at hu; subst hu; rfl) (by unfold maxLen; omega) (by omega) (by simp; omega) ?_; intro v' w2 hown' hgrow _ hat)
      go_wp2
      rw [wrap_u64e, byte_of n k (by omega)] at hown'
      refine ⟨⟨k, acc ++ [n / 2 ^ (8 * k) % 256], rfl, ?_, (hbw.alloc hsz _).grown hgrow (by simp; omega) (fun k h => (hI.lt k h).1), ?_, by omega⟩, by simp [intOf]⟩
      · rw [← List.append_assoc, List.length_append, bcells_append]; exact hown'
      · rw [List.append_assoc]; exact HA.out

theorem refnum2 (v : Value) (l : List Int) (n : Int) (w : World) (hv : View w v l) (hlen : l.length ≤ 1099511627776) :
    Calls Tryz.prog 30 #[v, .int .i64 n, .int .i64 2] w fun e w' => Below w.heap.size w w' ∧ ∃ u, e = .returned u ∧ w'.ownsRow w.heap.size 5 1 u (l ++ be n 2).length (bcells (l ++ be n 2)) := by
  have := refnum_any v l n 2 w hv hlen
  rwa [show (min (max (2 : Int) 1) 8).toNat = 2 by decide] at this

theorem own_weaken {w : World} {B B' n : Nat} {v : Value} {xs : List Value} (h : w.ownsRow B 5 1 v n xs) (hB : B' ≤ B) : w.ownsRow B' 5 1 v n xs := by
  refine ⟨h.1, ?_⟩
  rcases h.2 with x | ⟨g, cap, cur, e, hb, r⟩
  · exact .inl x
  · exact .inr ⟨g, cap, cur, e, by omega, r⟩

set_option maxRecDepth 8000 in
set_option maxHeartbeats 2000000 in
theorem reftext_any (v : Value) (l : List Int) (s : ByteArray) (w : World) (hv : View w v l) (hlen : l.length ≤ 549755813888) (hs : s.size ≤ 4294967296) :
    Calls Tryz.prog 28 #[v, .string s] w fun e w' => Below w.heap.size w w' ∧ ∃ u, e = .returned u ∧ w'.ownsRow w.heap.size 5 1 u (l ++ wtextZ s).length (bcells (l ++ wtextZ s)) := by
  cases hvd : Lib.validD s.data.toList with
  | false =>
    rw [show wtextZ s = be 0 2 by unfold wtextZ; rw [if_neg (by simp [hvd])]]
    have HE := hidIt (refenc_bad s w hs hvd)
    clear hvd
    go_enter Tryz.func28, Tryz.ntmps28
    go_wp2_with fail
    refine HE.out.mono ?_
    rintro e w1 ⟨rfl, b1⟩
    have z1 := b1.size
    go_wp2_with fail
    refine (refnum2 v l 0 w1 (hv.below b1) (by omega)).mono ?_
    rintro e w2 ⟨b2, u2, rfl, o2⟩
    go_wp2
    go_ret
    exact ⟨b1.trans (b2.mono z1), _, rfl, own_weaken o2 z1⟩
  | true =>
    have HE := hidIt (refenc_ok s w hs hvd)
    have hel := encFrom_len s s.size 0
    have hby := encZ_bytes s
    by_cases h256 : (encZ s).length ≤ 256
    · rw [show wtextZ s = be ((encZ s).length : Nat) 2 ++ encZ s by unfold wtextZ; rw [if_pos ⟨hvd, h256⟩]]
      clear hvd hel
      generalize encZ s = E at *
      generalize hE : E.length = n at *
      have hn : (n : Int) ≤ 256 := by omega
      go_enter Tryz.func28, Tryz.ntmps28
      go_wp2_with fail
      refine HE.out.mono ?_
      rintro e w1 ⟨b1, ve, rfl, oe⟩
      have z1 := b1.size
      obtain ⟨aoe, cape, rfl⟩ := own_slice oe
      go_wp2_with fail
      refine (refnum2 v l (n : Int) w1 (hv.below b1) (by omega)).mono ?_
      rintro e w2 ⟨b2, u2, rfl, o2⟩
      have z2 := b2.size
      have Ve : View w2 (.slice aoe n cape) E := (View.of_own (l := E) (by rw [hE]; exact oe) hby).below b2
      have hl2 : (l ++ be (n : Int) 2).length + E.length ≤ 140737488355328 := by rw [List.length_append, be_len]; omega
      go_wp2_with (at_builtin; refine wpList_append_view rfl _ _ rfl w1.heap.size u2 _ _ _ E rfl o2 rfl Ve hl2 z2 ?_; intro v3 w3 ho3 hst3)
      go_wp2
      go_ret
      refine ⟨b1.trans ((b2.trans (hst3.below z2 (fun k h => (o2.lt k h).1))).mono z1), _, rfl, own_weaken ?_ z1⟩
      rw [← List.append_assoc, List.length_append, bcells_append]; exact ho3
    · rw [show wtextZ s = be 0 2 by unfold wtextZ; rw [if_neg (fun h => h256 h.2)]]
      clear hvd
      generalize encZ s = E at *
      generalize hE : E.length = n at *
      have hn : (256 : Int) < (n : Int) := by omega
      go_enter Tryz.func28, Tryz.ntmps28
      go_wp2_with fail
      refine HE.out.mono ?_
      rintro e w1 ⟨b1, ve, rfl, oe⟩
      have z1 := b1.size
      obtain ⟨aoe, cape, rfl⟩ := own_slice oe
      go_wp2_with fail
      refine (refnum2 v l 0 w1 (hv.below b1) (by omega)).mono ?_
      rintro e w2 ⟨b2, u2, rfl, o2⟩
      go_wp2
      go_ret
      exact ⟨b1.trans (b2.mono z1), _, rfl, own_weaken o2 z1⟩
end Go.Proofs.YthagaldpopnoeaaGreatDoor
