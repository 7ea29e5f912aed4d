/- MutfCodes, walked. -/
import Derived.Test.YtnnoifofgbibmaaDoorRefD
import Derived.Test.YtnnoifofgbibmaaDoorWrT
namespace Go.Proofs.YtnnoifofgbibmaaDoor
open Go.RowKit

theorem View.take {w : World} {ao : Option Addr} {cap : Nat} {l : List Int} (h : View w (.slice ao l.length cap) l) (n : Nat) (hn : n ≤ l.length) : View w (.slice ao n cap) (l.take n) := by
  obtain ⟨ao', cap', e, hc, hm, hy, hl⟩ := h
  cases e
  have hlen : (l.take n).length = n := by rw [List.length_take]; omega
  refine ⟨ao, cap, by rw [hlen], by rw [hlen]; omega, hm, fun x hx => hy x (List.mem_of_mem_take hx), ?_⟩
  rcases hl with h | ⟨g, off, e, hl⟩
  · left; rw [h]; simp
  · right
    refine ⟨g, off, e, fun j x hj => hl j x ?_⟩
    rw [List.getElem?_take] at hj
    split at hj
    · exact hj
    · cases hj

set_option maxHeartbeats 8000000 in
theorem codes_00 (s : ByteArray) (ao : Option Addr) (cap : Nat) (lb : List Int) (w : World) (hT : Tabs w) (hv0 : View w (.slice ao lb.length cap) lb) (hs : s.size ≤ 1000) (hb : lb.length ≤ 1000) :
    Calls Tryd.prog 4 #[.string s, .slice ao lb.length cap] w fun e w' => e = .returned (.bool true) ∧ Below w.heap.size w w' := by
  have hs' : ¬ (1000 : Int) < (s.size : Int) := by omega
  have hb' : ¬ (1000 : Int) < (lb.length : Int) := by omega
  cases hv : Lib.validD (s).data.toList with
  | true =>
    go_enter Tryd.func4, Tryd.ntmps4
    go_wp2_with fail
    refine (encode_yes (s) w hT (by omega) hv).mono ?_
    rintro e w1 ⟨b1, v1, rfl, o1⟩
    have z1 := b1.size
    go_wp2_with fail
    refine (refenc_ok (s) w1 (by omega) hv).mono ?_
    rintro e w2 ⟨b2, v2, rfl, o2⟩
    have B2 : Below w.heap.size w w2 := b1.trans (b2.mono z1)
    have z2 := B2.size
    go_wp2_with fail
    refine (decode_any _ (lb) w2 (hv0.below B2) (by omega)).mono ?_
    rintro e w3 ⟨b3, h3⟩
    have B3 : Below w.heap.size w w3 := B2.trans (b3.mono z2)
    have z3 := B3.size
    rcases h3 with ⟨xs, hx, rfl⟩ | ⟨hx, rfl⟩
    · go_wp2_with fail
      refine (refdec_any _ (lb) w3 (hv0.below B3) (by omega)).mono ?_
      rw [hx]
      rintro e w4 ⟨b4, h4⟩
      obtain rfl : e = .returned (.tuple #[.string (strOfNums xs), .int .i64 0]) := by
        rcases h4 with ⟨ys, h, h'⟩ | ⟨h, _⟩
        · cases h; exact h'
        · cases h
      have B4 : Below w.heap.size w w4 := B3.trans (b4.mono z3)
      have z4 := B4.size
      have z23 := b3.size
      have b24 : Below w2.heap.size w2 w4 := b3.trans (b4.mono z23)
      have cs1 := run_string (((View.of_own o1 (encZ_bytes _)).below b2).below b24)
      have cs2 := run_string ((View.of_own o2 (encZ_bytes _)).below b24)
      generalize strOfNums (encZ (s)) = E at *
      clear h4 hx b3 b4 b1 b2 B2 B3
      go_wp2_with fail
      refine (known_any w4 (hT.below B4)).mono ?_
      rintro e w5 ⟨rfl, b5⟩
      go_wp2
      go_ret
      exact ⟨rfl, B4.trans (b5.mono z4)⟩
    · go_wp2_with fail
      refine (refdec_any _ (lb) w3 (hv0.below B3) (by omega)).mono ?_
      rw [hx]
      rintro e w4 ⟨b4, h4⟩
      obtain rfl : e = .returned (.tuple #[.string ⟨#[]⟩, .int .i64 12]) := by
        rcases h4 with ⟨ys, h, h'⟩ | ⟨_, h⟩
        · cases h
        · exact h
      have B4 : Below w.heap.size w w4 := B3.trans (b4.mono z3)
      have z4 := B4.size
      have z23 := b3.size
      have b24 : Below w2.heap.size w2 w4 := b3.trans (b4.mono z23)
      have cs1 := run_string (((View.of_own o1 (encZ_bytes _)).below b2).below b24)
      have cs2 := run_string ((View.of_own o2 (encZ_bytes _)).below b24)
      generalize strOfNums (encZ (s)) = E at *
      clear h4 hx b3 b4 b1 b2 B2 B3
      go_wp2_with fail
      refine (known_any w4 (hT.below B4)).mono ?_
      rintro e w5 ⟨rfl, b5⟩
      go_wp2
      go_ret
      exact ⟨rfl, B4.trans (b5.mono z4)⟩
  | false =>
    go_enter Tryd.func4, Tryd.ntmps4
    go_wp2_with fail
    refine (encode_no (s) w hT (by omega) hv).mono ?_
    rintro e w1 ⟨rfl, b1⟩
    have z1 := b1.size
    go_wp2_with fail
    refine (refenc_bad (s) w1 (by omega) hv).mono ?_
    rintro e w2 ⟨rfl, b2⟩
    have B2 : Below w.heap.size w w2 := b1.trans (b2.mono z1)
    have z2 := B2.size
    go_wp2_with fail
    refine (decode_any _ (lb) w2 (hv0.below B2) (by omega)).mono ?_
    rintro e w3 ⟨b3, h3⟩
    have B3 : Below w.heap.size w w3 := B2.trans (b3.mono z2)
    have z3 := B3.size
    rcases h3 with ⟨xs, hx, rfl⟩ | ⟨hx, rfl⟩
    · go_wp2_with fail
      refine (refdec_any _ (lb) w3 (hv0.below B3) (by omega)).mono ?_
      rw [hx]
      rintro e w4 ⟨b4, h4⟩
      obtain rfl : e = .returned (.tuple #[.string (strOfNums xs), .int .i64 0]) := by
        rcases h4 with ⟨ys, h, h'⟩ | ⟨h, _⟩
        · cases h; exact h'
        · cases h
      have B4 : Below w.heap.size w w4 := B3.trans (b4.mono z3)
      have z4 := B4.size
      have cs1 := run_string (View.empty w4)
      rw [show strOfNums [] = ⟨#[]⟩ from rfl] at cs1
      clear h4 hx b3 b4 b1 b2 B2 B3
      go_wp2_with fail
      refine (known_any w4 (hT.below B4)).mono ?_
      rintro e w5 ⟨rfl, b5⟩
      go_wp2
      go_ret
      exact ⟨rfl, B4.trans (b5.mono z4)⟩
    · go_wp2_with fail
      refine (refdec_any _ (lb) w3 (hv0.below B3) (by omega)).mono ?_
      rw [hx]
      rintro e w4 ⟨b4, h4⟩
      obtain rfl : e = .returned (.tuple #[.string ⟨#[]⟩, .int .i64 12]) := by
        rcases h4 with ⟨ys, h, h'⟩ | ⟨_, h⟩
        · cases h
        · exact h
      have B4 : Below w.heap.size w w4 := B3.trans (b4.mono z3)
      have z4 := B4.size
      have cs1 := run_string (View.empty w4)
      rw [show strOfNums [] = ⟨#[]⟩ from rfl] at cs1
      clear h4 hx b3 b4 b1 b2 B2 B3
      go_wp2_with fail
      refine (known_any w4 (hT.below B4)).mono ?_
      rintro e w5 ⟨rfl, b5⟩
      go_wp2
      go_ret
      exact ⟨rfl, B4.trans (b5.mono z4)⟩
set_option maxHeartbeats 8000000 in
theorem codes_10 (s : ByteArray) (ao : Option Addr) (cap : Nat) (lb : List Int) (w : World) (hT : Tabs w) (hv0 : View w (.slice ao lb.length cap) lb) (hs : 1000 < s.size) (hb : lb.length ≤ 1000) :
    Calls Tryd.prog 4 #[.string s, .slice ao lb.length cap] w fun e w' => e = .returned (.bool true) ∧ Below w.heap.size w w' := by
  have hs' : (1000 : Int) < (s.size : Int) := by omega
  have hb' : ¬ (1000 : Int) < (lb.length : Int) := by omega
  have hse : (s.extract 0 1000).size ≤ 1000 := by rw [ByteArray.size_extract]; omega
  cases hv : Lib.validD (s.extract 0 1000).data.toList with
  | true =>
    go_enter Tryd.func4, Tryd.ntmps4
    go_wp2_with fail
    refine (encode_yes (s.extract 0 1000) w hT (by omega) hv).mono ?_
    rintro e w1 ⟨b1, v1, rfl, o1⟩
    have z1 := b1.size
    go_wp2_with fail
    refine (refenc_ok (s.extract 0 1000) w1 (by omega) hv).mono ?_
    rintro e w2 ⟨b2, v2, rfl, o2⟩
    have B2 : Below w.heap.size w w2 := b1.trans (b2.mono z1)
    have z2 := B2.size
    go_wp2_with fail
    refine (decode_any _ (lb) w2 (hv0.below B2) (by omega)).mono ?_
    rintro e w3 ⟨b3, h3⟩
    have B3 : Below w.heap.size w w3 := B2.trans (b3.mono z2)
    have z3 := B3.size
    rcases h3 with ⟨xs, hx, rfl⟩ | ⟨hx, rfl⟩
    · go_wp2_with fail
      refine (refdec_any _ (lb) w3 (hv0.below B3) (by omega)).mono ?_
      rw [hx]
      rintro e w4 ⟨b4, h4⟩
      obtain rfl : e = .returned (.tuple #[.string (strOfNums xs), .int .i64 0]) := by
        rcases h4 with ⟨ys, h, h'⟩ | ⟨h, _⟩
        · cases h; exact h'
        · cases h
      have B4 : Below w.heap.size w w4 := B3.trans (b4.mono z3)
      have z4 := B4.size
      have z23 := b3.size
      have b24 : Below w2.heap.size w2 w4 := b3.trans (b4.mono z23)
      have cs1 := run_string (((View.of_own o1 (encZ_bytes _)).below b2).below b24)
      have cs2 := run_string ((View.of_own o2 (encZ_bytes _)).below b24)
      generalize strOfNums (encZ (s.extract 0 1000)) = E at *
      clear h4 hx b3 b4 b1 b2 B2 B3
      go_wp2_with fail
      refine (known_any w4 (hT.below B4)).mono ?_
      rintro e w5 ⟨rfl, b5⟩
      go_wp2
      go_ret
      exact ⟨rfl, B4.trans (b5.mono z4)⟩
    · go_wp2_with fail
      refine (refdec_any _ (lb) w3 (hv0.below B3) (by omega)).mono ?_
      rw [hx]
      rintro e w4 ⟨b4, h4⟩
      obtain rfl : e = .returned (.tuple #[.string ⟨#[]⟩, .int .i64 12]) := by
        rcases h4 with ⟨ys, h, h'⟩ | ⟨_, h⟩
        · cases h
        · exact h
      have B4 : Below w.heap.size w w4 := B3.trans (b4.mono z3)
      have z4 := B4.size
      have z23 := b3.size
      have b24 : Below w2.heap.size w2 w4 := b3.trans (b4.mono z23)
      have cs1 := run_string (((View.of_own o1 (encZ_bytes _)).below b2).below b24)
      have cs2 := run_string ((View.of_own o2 (encZ_bytes _)).below b24)
      generalize strOfNums (encZ (s.extract 0 1000)) = E at *
      clear h4 hx b3 b4 b1 b2 B2 B3
      go_wp2_with fail
      refine (known_any w4 (hT.below B4)).mono ?_
      rintro e w5 ⟨rfl, b5⟩
      go_wp2
      go_ret
      exact ⟨rfl, B4.trans (b5.mono z4)⟩
  | false =>
    go_enter Tryd.func4, Tryd.ntmps4
    go_wp2_with fail
    refine (encode_no (s.extract 0 1000) w hT (by omega) hv).mono ?_
    rintro e w1 ⟨rfl, b1⟩
    have z1 := b1.size
    go_wp2_with fail
    refine (refenc_bad (s.extract 0 1000) w1 (by omega) hv).mono ?_
    rintro e w2 ⟨rfl, b2⟩
    have B2 : Below w.heap.size w w2 := b1.trans (b2.mono z1)
    have z2 := B2.size
    go_wp2_with fail
    refine (decode_any _ (lb) w2 (hv0.below B2) (by omega)).mono ?_
    rintro e w3 ⟨b3, h3⟩
    have B3 : Below w.heap.size w w3 := B2.trans (b3.mono z2)
    have z3 := B3.size
    rcases h3 with ⟨xs, hx, rfl⟩ | ⟨hx, rfl⟩
    · go_wp2_with fail
      refine (refdec_any _ (lb) w3 (hv0.below B3) (by omega)).mono ?_
      rw [hx]
      rintro e w4 ⟨b4, h4⟩
      obtain rfl : e = .returned (.tuple #[.string (strOfNums xs), .int .i64 0]) := by
        rcases h4 with ⟨ys, h, h'⟩ | ⟨h, _⟩
        · cases h; exact h'
        · cases h
      have B4 : Below w.heap.size w w4 := B3.trans (b4.mono z3)
      have z4 := B4.size
      have cs1 := run_string (View.empty w4)
      rw [show strOfNums [] = ⟨#[]⟩ from rfl] at cs1
      clear h4 hx b3 b4 b1 b2 B2 B3
      go_wp2_with fail
      refine (known_any w4 (hT.below B4)).mono ?_
      rintro e w5 ⟨rfl, b5⟩
      go_wp2
      go_ret
      exact ⟨rfl, B4.trans (b5.mono z4)⟩
    · go_wp2_with fail
      refine (refdec_any _ (lb) w3 (hv0.below B3) (by omega)).mono ?_
      rw [hx]
      rintro e w4 ⟨b4, h4⟩
      obtain rfl : e = .returned (.tuple #[.string ⟨#[]⟩, .int .i64 12]) := by
        rcases h4 with ⟨ys, h, h'⟩ | ⟨_, h⟩
        · cases h
        · exact h
      have B4 : Below w.heap.size w w4 := B3.trans (b4.mono z3)
      have z4 := B4.size
      have cs1 := run_string (View.empty w4)
      rw [show strOfNums [] = ⟨#[]⟩ from rfl] at cs1
      clear h4 hx b3 b4 b1 b2 B2 B3
      go_wp2_with fail
      refine (known_any w4 (hT.below B4)).mono ?_
      rintro e w5 ⟨rfl, b5⟩
      go_wp2
      go_ret
      exact ⟨rfl, B4.trans (b5.mono z4)⟩
set_option maxHeartbeats 8000000 in
theorem codes_01 (s : ByteArray) (ao : Option Addr) (cap : Nat) (lb : List Int) (w : World) (hT : Tabs w) (hv0 : View w (.slice ao lb.length cap) lb) (hs : s.size ≤ 1000) (hb : 1000 < lb.length) :
    Calls Tryd.prog 4 #[.string s, .slice ao lb.length cap] w fun e w' => e = .returned (.bool true) ∧ Below w.heap.size w w' := by
  have hs' : ¬ (1000 : Int) < (s.size : Int) := by omega
  have hb' : (1000 : Int) < (lb.length : Int) := by omega
  have hv1 := hv0.take 1000 (by omega)
  have hlt : (lb.take 1000).length ≤ 1000 := by rw [List.length_take]; omega
  have hcap : (1000 : Int) ≤ (cap : Int) := by obtain ⟨_, _, e, h, _⟩ := hv0; cases e; omega
  cases hv : Lib.validD (s).data.toList with
  | true =>
    go_enter Tryd.func4, Tryd.ntmps4
    go_wp2_with fail
    refine (encode_yes (s) w hT (by omega) hv).mono ?_
    rintro e w1 ⟨b1, v1, rfl, o1⟩
    have z1 := b1.size
    go_wp2_with fail
    refine (refenc_ok (s) w1 (by omega) hv).mono ?_
    rintro e w2 ⟨b2, v2, rfl, o2⟩
    have B2 : Below w.heap.size w w2 := b1.trans (b2.mono z1)
    have z2 := B2.size
    go_wp2_with fail
    refine (decode_any _ (lb.take 1000) w2 (hv1.below B2) (by omega)).mono ?_
    rintro e w3 ⟨b3, h3⟩
    have B3 : Below w.heap.size w w3 := B2.trans (b3.mono z2)
    have z3 := B3.size
    rcases h3 with ⟨xs, hx, rfl⟩ | ⟨hx, rfl⟩
    · go_wp2_with fail
      refine (refdec_any _ (lb.take 1000) w3 (hv1.below B3) (by omega)).mono ?_
      rw [hx]
      rintro e w4 ⟨b4, h4⟩
      obtain rfl : e = .returned (.tuple #[.string (strOfNums xs), .int .i64 0]) := by
        rcases h4 with ⟨ys, h, h'⟩ | ⟨h, _⟩
        · cases h; exact h'
        · cases h
      have B4 : Below w.heap.size w w4 := B3.trans (b4.mono z3)
      have z4 := B4.size
      have z23 := b3.size
      have b24 : Below w2.heap.size w2 w4 := b3.trans (b4.mono z23)
      have cs1 := run_string (((View.of_own o1 (encZ_bytes _)).below b2).below b24)
      have cs2 := run_string ((View.of_own o2 (encZ_bytes _)).below b24)
      generalize strOfNums (encZ (s)) = E at *
      clear h4 hx b3 b4 b1 b2 B2 B3
      go_wp2_with fail
      refine (known_any w4 (hT.below B4)).mono ?_
      rintro e w5 ⟨rfl, b5⟩
      go_wp2
      go_ret
      exact ⟨rfl, B4.trans (b5.mono z4)⟩
    · go_wp2_with fail
      refine (refdec_any _ (lb.take 1000) w3 (hv1.below B3) (by omega)).mono ?_
      rw [hx]
      rintro e w4 ⟨b4, h4⟩
      obtain rfl : e = .returned (.tuple #[.string ⟨#[]⟩, .int .i64 12]) := by
        rcases h4 with ⟨ys, h, h'⟩ | ⟨_, h⟩
        · cases h
        · exact h
      have B4 : Below w.heap.size w w4 := B3.trans (b4.mono z3)
      have z4 := B4.size
      have z23 := b3.size
      have b24 : Below w2.heap.size w2 w4 := b3.trans (b4.mono z23)
      have cs1 := run_string (((View.of_own o1 (encZ_bytes _)).below b2).below b24)
      have cs2 := run_string ((View.of_own o2 (encZ_bytes _)).below b24)
      generalize strOfNums (encZ (s)) = E at *
      clear h4 hx b3 b4 b1 b2 B2 B3
      go_wp2_with fail
      refine (known_any w4 (hT.below B4)).mono ?_
      rintro e w5 ⟨rfl, b5⟩
      go_wp2
      go_ret
      exact ⟨rfl, B4.trans (b5.mono z4)⟩
  | false =>
    go_enter Tryd.func4, Tryd.ntmps4
    go_wp2_with fail
    refine (encode_no (s) w hT (by omega) hv).mono ?_
    rintro e w1 ⟨rfl, b1⟩
    have z1 := b1.size
    go_wp2_with fail
    refine (refenc_bad (s) w1 (by omega) hv).mono ?_
    rintro e w2 ⟨rfl, b2⟩
    have B2 : Below w.heap.size w w2 := b1.trans (b2.mono z1)
    have z2 := B2.size
    go_wp2_with fail
    refine (decode_any _ (lb.take 1000) w2 (hv1.below B2) (by omega)).mono ?_
    rintro e w3 ⟨b3, h3⟩
    have B3 : Below w.heap.size w w3 := B2.trans (b3.mono z2)
    have z3 := B3.size
    rcases h3 with ⟨xs, hx, rfl⟩ | ⟨hx, rfl⟩
    · go_wp2_with fail
      refine (refdec_any _ (lb.take 1000) w3 (hv1.below B3) (by omega)).mono ?_
      rw [hx]
      rintro e w4 ⟨b4, h4⟩
      obtain rfl : e = .returned (.tuple #[.string (strOfNums xs), .int .i64 0]) := by
        rcases h4 with ⟨ys, h, h'⟩ | ⟨h, _⟩
        · cases h; exact h'
        · cases h
      have B4 : Below w.heap.size w w4 := B3.trans (b4.mono z3)
      have z4 := B4.size
      have cs1 := run_string (View.empty w4)
      rw [show strOfNums [] = ⟨#[]⟩ from rfl] at cs1
      clear h4 hx b3 b4 b1 b2 B2 B3
      go_wp2_with fail
      refine (known_any w4 (hT.below B4)).mono ?_
      rintro e w5 ⟨rfl, b5⟩
      go_wp2
      go_ret
      exact ⟨rfl, B4.trans (b5.mono z4)⟩
    · go_wp2_with fail
      refine (refdec_any _ (lb.take 1000) w3 (hv1.below B3) (by omega)).mono ?_
      rw [hx]
      rintro e w4 ⟨b4, h4⟩
      obtain rfl : e = .returned (.tuple #[.string ⟨#[]⟩, .int .i64 12]) := by
        rcases h4 with ⟨ys, h, h'⟩ | ⟨_, h⟩
        · cases h
        · exact h
      have B4 : Below w.heap.size w w4 := B3.trans (b4.mono z3)
      have z4 := B4.size
      have cs1 := run_string (View.empty w4)
      rw [show strOfNums [] = ⟨#[]⟩ from rfl] at cs1
      clear h4 hx b3 b4 b1 b2 B2 B3
      go_wp2_with fail
      refine (known_any w4 (hT.below B4)).mono ?_
      rintro e w5 ⟨rfl, b5⟩
      go_wp2
      go_ret
      exact ⟨rfl, B4.trans (b5.mono z4)⟩
set_option maxHeartbeats 8000000 in
theorem codes_11 (s : ByteArray) (ao : Option Addr) (cap : Nat) (lb : List Int) (w : World) (hT : Tabs w) (hv0 : View w (.slice ao lb.length cap) lb) (hs : 1000 < s.size) (hb : 1000 < lb.length) :
    Calls Tryd.prog 4 #[.string s, .slice ao lb.length cap] w fun e w' => e = .returned (.bool true) ∧ Below w.heap.size w w' := by
  have hs' : (1000 : Int) < (s.size : Int) := by omega
  have hb' : (1000 : Int) < (lb.length : Int) := by omega
  have hse : (s.extract 0 1000).size ≤ 1000 := by rw [ByteArray.size_extract]; omega
  have hv1 := hv0.take 1000 (by omega)
  have hlt : (lb.take 1000).length ≤ 1000 := by rw [List.length_take]; omega
  have hcap : (1000 : Int) ≤ (cap : Int) := by obtain ⟨_, _, e, h, _⟩ := hv0; cases e; omega
  cases hv : Lib.validD (s.extract 0 1000).data.toList with
  | true =>
    go_enter Tryd.func4, Tryd.ntmps4
    go_wp2_with fail
    refine (encode_yes (s.extract 0 1000) w hT (by omega) hv).mono ?_
    rintro e w1 ⟨b1, v1, rfl, o1⟩
    have z1 := b1.size
    go_wp2_with fail
    refine (refenc_ok (s.extract 0 1000) w1 (by omega) hv).mono ?_
    rintro e w2 ⟨b2, v2, rfl, o2⟩
    have B2 : Below w.heap.size w w2 := b1.trans (b2.mono z1)
    have z2 := B2.size
    go_wp2_with fail
    refine (decode_any _ (lb.take 1000) w2 (hv1.below B2) (by omega)).mono ?_
    rintro e w3 ⟨b3, h3⟩
    have B3 : Below w.heap.size w w3 := B2.trans (b3.mono z2)
    have z3 := B3.size
    rcases h3 with ⟨xs, hx, rfl⟩ | ⟨hx, rfl⟩
    · go_wp2_with fail
      refine (refdec_any _ (lb.take 1000) w3 (hv1.below B3) (by omega)).mono ?_
      rw [hx]
      rintro e w4 ⟨b4, h4⟩
      obtain rfl : e = .returned (.tuple #[.string (strOfNums xs), .int .i64 0]) := by
        rcases h4 with ⟨ys, h, h'⟩ | ⟨h, _⟩
        · cases h; exact h'
        · cases h
      have B4 : Below w.heap.size w w4 := B3.trans (b4.mono z3)
      have z4 := B4.size
      have z23 := b3.size
      have b24 : Below w2.heap.size w2 w4 := b3.trans (b4.mono z23)
      have cs1 := run_string (((View.of_own o1 (encZ_bytes _)).below b2).below b24)
      have cs2 := run_string ((View.of_own o2 (encZ_bytes _)).below b24)
      generalize strOfNums (encZ (s.extract 0 1000)) = E at *
      clear h4 hx b3 b4 b1 b2 B2 B3
      go_wp2_with fail
      refine (known_any w4 (hT.below B4)).mono ?_
      rintro e w5 ⟨rfl, b5⟩
      go_wp2
      go_ret
      exact ⟨rfl, B4.trans (b5.mono z4)⟩
    · go_wp2_with fail
      refine (refdec_any _ (lb.take 1000) w3 (hv1.below B3) (by omega)).mono ?_
      rw [hx]
      rintro e w4 ⟨b4, h4⟩
      obtain rfl : e = .returned (.tuple #[.string ⟨#[]⟩, .int .i64 12]) := by
        rcases h4 with ⟨ys, h, h'⟩ | ⟨_, h⟩
        · cases h
        · exact h
      have B4 : Below w.heap.size w w4 := B3.trans (b4.mono z3)
      have z4 := B4.size
      have z23 := b3.size
      have b24 : Below w2.heap.size w2 w4 := b3.trans (b4.mono z23)
      have cs1 := run_string (((View.of_own o1 (encZ_bytes _)).below b2).below b24)
      have cs2 := run_string ((View.of_own o2 (encZ_bytes _)).below b24)
      generalize strOfNums (encZ (s.extract 0 1000)) = E at *
      clear h4 hx b3 b4 b1 b2 B2 B3
      go_wp2_with fail
      refine (known_any w4 (hT.below B4)).mono ?_
      rintro e w5 ⟨rfl, b5⟩
      go_wp2
      go_ret
      exact ⟨rfl, B4.trans (b5.mono z4)⟩
  | false =>
    go_enter Tryd.func4, Tryd.ntmps4
    go_wp2_with fail
    refine (encode_no (s.extract 0 1000) w hT (by omega) hv).mono ?_
    rintro e w1 ⟨rfl, b1⟩
    have z1 := b1.size
    go_wp2_with fail
    refine (refenc_bad (s.extract 0 1000) w1 (by omega) hv).mono ?_
    rintro e w2 ⟨rfl, b2⟩
    have B2 : Below w.heap.size w w2 := b1.trans (b2.mono z1)
    have z2 := B2.size
    go_wp2_with fail
    refine (decode_any _ (lb.take 1000) w2 (hv1.below B2) (by omega)).mono ?_
    rintro e w3 ⟨b3, h3⟩
    have B3 : Below w.heap.size w w3 := B2.trans (b3.mono z2)
    have z3 := B3.size
    rcases h3 with ⟨xs, hx, rfl⟩ | ⟨hx, rfl⟩
    · go_wp2_with fail
      refine (refdec_any _ (lb.take 1000) w3 (hv1.below B3) (by omega)).mono ?_
      rw [hx]
      rintro e w4 ⟨b4, h4⟩
      obtain rfl : e = .returned (.tuple #[.string (strOfNums xs), .int .i64 0]) := by
        rcases h4 with ⟨ys, h, h'⟩ | ⟨h, _⟩
        · cases h; exact h'
        · cases h
      have B4 : Below w.heap.size w w4 := B3.trans (b4.mono z3)
      have z4 := B4.size
      have cs1 := run_string (View.empty w4)
      rw [show strOfNums [] = ⟨#[]⟩ from rfl] at cs1
      clear h4 hx b3 b4 b1 b2 B2 B3
      go_wp2_with fail
      refine (known_any w4 (hT.below B4)).mono ?_
      rintro e w5 ⟨rfl, b5⟩
      go_wp2
      go_ret
      exact ⟨rfl, B4.trans (b5.mono z4)⟩
    · go_wp2_with fail
      refine (refdec_any _ (lb.take 1000) w3 (hv1.below B3) (by omega)).mono ?_
      rw [hx]
      rintro e w4 ⟨b4, h4⟩
      obtain rfl : e = .returned (.tuple #[.string ⟨#[]⟩, .int .i64 12]) := by
        rcases h4 with ⟨ys, h, h'⟩ | ⟨_, h⟩
        · cases h
        · exact h
      have B4 : Below w.heap.size w w4 := B3.trans (b4.mono z3)
      have z4 := B4.size
      have cs1 := run_string (View.empty w4)
      rw [show strOfNums [] = ⟨#[]⟩ from rfl] at cs1
      clear h4 hx b3 b4 b1 b2 B2 B3
      go_wp2_with fail
      refine (known_any w4 (hT.below B4)).mono ?_
      rintro e w5 ⟨rfl, b5⟩
      go_wp2
      go_ret
      exact ⟨rfl, B4.trans (b5.mono z4)⟩
theorem codes_any (s : ByteArray) (vb : Value) (lb : List Int) (w : World) (hT : Tabs w) (hv : View w vb lb) :
    Calls Tryd.prog 4 #[.string s, vb] w fun e w' => e = .returned (.bool true) ∧ Below w.heap.size w w' := by
  obtain ⟨ao, cap, rfl, -⟩ := id hv
  by_cases hs : s.size ≤ 1000
  · by_cases hb : lb.length ≤ 1000
    · exact codes_00 s ao cap lb w hT hv hs hb
    · exact codes_01 s ao cap lb w hT hv hs (by omega)
  · by_cases hb : lb.length ≤ 1000
    · exact codes_10 s ao cap lb w hT hv (by omega) hb
    · exact codes_11 s ao cap lb w hT hv (by omega) (by omega)
end Go.Proofs.YtnnoifofgbibmaaDoor
