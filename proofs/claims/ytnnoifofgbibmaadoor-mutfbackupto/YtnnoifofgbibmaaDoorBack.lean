/- MutfBack, walked. -/
import Derived.Test.YtnnoifofgbibmaaDoorTh3
namespace Go.Proofs.YtnnoifofgbibmaaDoor
open Go.RowKit

theorem mAll_ge : ∀ rs : List Int, rs.length ≤ (mAll rs).length
  | [] => by simp
  | r :: rs => by
    have := mAll_ge rs
    have := mcode_pos r
    rw [mAll_cons, List.length_append, List.length_cons]; omega

set_option maxHeartbeats 4000000 in
theorem back_any (s : ByteArray) (vb : Value) (lb : List Int) (w : World) (hT : Tabs w) (hs : s.size ≤ 4294967296) (hv : View w vb lb) (hlb : lb.length ≤ 4294967296) :
    Calls Tryd.prog 5 #[.string s, vb] w fun e w' => e = .returned (.bool true) ∧ Below w.heap.size w w' := by
  obtain ⟨v1, w1, hc1, hc2, b1⟩ := run_reStr w s (by omega)
  have hby := mAll_bytes _ (runesZ_ok s)
  have hne := mAll_ne0 _ (runesZ_ok s)
  have HD := hidIt (decL_reStr s)
  have hml := mAll_len (runesZ s)
  have hrl : (runesZ s).length ≤ s.size := runesFrom_len s _ _
  have HE := hidIt (encode_yes (reStr s) w1 (hT.below b1) (by have := reStr_size s; omega) (reStr_valid s))
  rw [encZ_reStr] at HE
  have HR : Hid (reStr s = strOfNums (uAll (runesZ s))) := rfl
  have hlbb : AllBytes lb := by obtain ⟨_, _, _, _, _, h, _⟩ := hv; exact h
  generalize reStr s = S at *
  generalize mAll (runesZ s) = M at *
  have z1 := b1.size
  go_enter Tryd.func5, Tryd.ntmps5
  go_wp2_with fail
  clear hc1 hc2
  refine HE.out.mono ?_
  rintro e w2 ⟨b2, v2, rfl, o2⟩
  have B2 : Below w.heap.size w w2 := b1.trans (b2.mono z1)
  have V2 := View.of_own o2 hby
  clear HE b1 b2 o2
  obtain ⟨ao, cap, rfl, hcp, hm, -, hl⟩ := id V2
  have z2 := B2.size
  go_wp2
  go_loop [7] (fun i => ∃ k : Nat, k ≤ M.length ∧ i = .int .i64 (k : Int)) (fun i => M.length - (intOf i).toNat)
  case atStart => exact ⟨0, Nat.zero_le _, rfl⟩
  case round =>
    obtain ⟨k, hk, rfl⟩ := hrel
    by_cases hlt : k < M.length
    · obtain ⟨g, off, rfl, hl2⟩ : ∃ g off, ao = some ⟨g, off, none⟩ ∧ Lies w2 g off M := by
        rcases hl with e | h
        · rw [e] at hlt; simp at hlt
        · exact h
      have hcell := hl2 k M[k] (by simp [hlt])
      have hx0 : (M[k] == 0) = false := by have := hne M[k] (by simp); simpa using this
      generalize M[k] = c at *
      clear hl2 hne hl V2
      have hlt' : (k : Int) < (M.length : Int) := by omega
      go_wp2
      exact ⟨⟨k + 1, by omega, by go_num⟩, by simp [intOf]; omega⟩
    · have hlt' : ¬ (k : Int) < (M.length : Int) := by omega
      clear hl hne
      go_wp2_with fail
      refine (decode_any _ M w2 V2 (by omega)).mono ?_
      rw [HD.out]
      rintro e w3 ⟨b3, h3⟩
      obtain rfl : e = .returned (.tuple #[.string S, .int .i64 0]) := by
        rcases h3 with ⟨xs, h, h'⟩ | ⟨h, _⟩
        · cases h; rw [HR.out]; exact h'
        · cases h
      have B3 : Below w.heap.size w w3 := B2.trans (b3.mono z2)
      clear h3 b3 V2 B2
      have V3 := hv.below B3
      go_wp2_with fail
      refine (decode_any vb lb w3 V3 (by omega)).mono ?_
      rintro e w4 ⟨b4, h4⟩
      have z3 := B3.size
      have B4 : Below w.heap.size w w4 := B3.trans (b4.mono z3)
      clear b4 B3 V3
      have z4 := B4.size
      rcases h4 with ⟨xs, hx, rfl⟩ | ⟨hx, rfl⟩
      · obtain ⟨rs, hrs, rfl, rfl⟩ := decL_inv lb xs hlbb hx
        have hv4 := valid_uAll rs hrs
        have he4 := encZ_uAll rs hrs
        have hul : (strOfNums (uAll rs)).size ≤ 1099511627776 := by
          have h1 := uAll_len rs
          have h2 := mAll_ge rs
          rw [nums_size]; omega
        have HE4 := hidIt (encode_yes (strOfNums (uAll rs)) w4 (hT.below B4) hul hv4)
        rw [he4] at HE4
        clear hv4 he4 hul hx hrs
        generalize strOfNums (uAll rs) = X at *
        generalize mAll rs = lb at *
        go_wp2_with fail
        refine HE4.out.mono ?_
        rintro e w5 ⟨b5, v5, rfl, o5⟩
        have B5 : Below w.heap.size w w5 := B4.trans (b5.mono z4)
        clear B4 b5
        have cs5 := run_string (View.of_own o5 hlbb)
        have cv5 := run_string (hv.below B5)
        clear o5
        have z5 := B5.size
        go_wp2_with fail
        refine (known_any w5 (hT.below B5)).mono ?_
        rintro e w6 ⟨rfl, b6⟩
        go_wp2
        go_ret
        exact ⟨rfl, B5.trans (b6.mono z5)⟩
      · go_wp2_with fail
        refine (known_any w4 (hT.below B4)).mono ?_
        rintro e w5 ⟨rfl, b5⟩
        go_wp2
        go_ret
        exact ⟨rfl, B4.trans (b5.mono z4)⟩
end Go.Proofs.YtnnoifofgbibmaaDoor
