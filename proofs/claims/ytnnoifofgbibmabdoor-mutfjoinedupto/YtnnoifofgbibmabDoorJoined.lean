/- MutfJoined, walked. -/
import Derived.Test.YtnnoifofgbibmabDoorTh3
namespace Go.Proofs.YtnnoifofgbibmabDoor
open Go.RowKit

theorem uAll_append (a b : List Int) : uAll (a ++ b) = uAll a ++ uAll b := by simp [uAll]
theorem mAll_append (a b : List Int) : mAll (a ++ b) = mAll a ++ mAll b := by simp [mAll]

set_option maxHeartbeats 8000000 in
theorem joined_any (s t : ByteArray) (w : World) (hT : Tabs w) (hs : s.size ≤ 1048576) (ht : t.size ≤ 1048576) :
    Calls Tryd.prog 4 #[.string s, .string t] w fun e w' => e = .returned (.bool true) ∧ Below w.heap.size w w' := by
  obtain ⟨v1, w1, hc1, hc2, b1⟩ := run_reStr w s (by omega)
  obtain ⟨v2, w2, hd1, hd2, b2⟩ := run_reStr w1 t (by omega)
  have z1 := b1.size
  have B2 : Below w.heap.size w w2 := b1.trans (b2.mono z1)
  have z2 := B2.size
  have hA := reStr_size s
  have hB := reStr_size t
  have hok1 := runesZ_ok s
  have hok2 := runesZ_ok t
  have hokc : ∀ r ∈ runesZ s ++ runesZ t, RuneOk r := by
    intro r hr
    rcases List.mem_append.1 hr with h | h
    · exact hok1 r h
    · exact hok2 r h
  have hAB : reStr s ++ reStr t = strOfNums (uAll (runesZ s ++ runesZ t)) := by
    unfold reStr; rw [uAll_append, nums_append]
  have hml := mAll_len (runesZ s)
  have hrl : (runesZ s).length ≤ s.size := runesFrom_len s _ _
  have hml2 := mAll_len (runesZ t)
  have hrl2 : (runesZ t).length ≤ t.size := runesFrom_len t _ _
  have HE1 : Hid (∀ wx, Below w.heap.size w wx → Calls Tryd.prog 8 #[.string (reStr s)] wx fun e w' => Below wx.heap.size wx w' ∧ ∃ v, e = .returned (.tuple #[v, .int .i64 0]) ∧ w'.ownsRow wx.heap.size 5 1 v (mAll (runesZ s)).length (bcells (mAll (runesZ s)))) := by
    intro wx hb
    have := encode_yes (reStr s) wx (hT.below hb) (by omega) (reStr_valid s)
    rwa [encZ_reStr] at this
  have HE2 : Hid (∀ wx, Below w.heap.size w wx → Calls Tryd.prog 8 #[.string (reStr t)] wx fun e w' => Below wx.heap.size wx w' ∧ ∃ v, e = .returned (.tuple #[v, .int .i64 0]) ∧ w'.ownsRow wx.heap.size 5 1 v (mAll (runesZ t)).length (bcells (mAll (runesZ t)))) := by
    intro wx hb
    have := encode_yes (reStr t) wx (hT.below hb) (by omega) (reStr_valid t)
    rwa [encZ_reStr] at this
  have HE3 : Hid (∀ wx, Below w.heap.size w wx → Calls Tryd.prog 8 #[.string (reStr s ++ reStr t)] wx fun e w' => Below wx.heap.size wx w' ∧ ∃ v, e = .returned (.tuple #[v, .int .i64 0]) ∧ w'.ownsRow wx.heap.size 5 1 v (mAll (runesZ s) ++ mAll (runesZ t)).length (bcells (mAll (runesZ s) ++ mAll (runesZ t)))) := by
    intro wx hb
    have hz : (reStr s ++ reStr t).size ≤ 1099511627776 := by rw [ByteArray.size_append]; omega
    have h1 := encode_yes (reStr s ++ reStr t) wx (hT.below hb) hz (by rw [hAB]; exact valid_uAll _ hokc)
    rw [hAB, encZ_uAll _ hokc, mAll_append, ← hAB] at h1
    exact h1
  have hby1 := mAll_bytes _ hok1
  have hby2 := mAll_bytes _ hok2
  have HZ : Hid (encZ (reStr s) = mAll (runesZ s)) := encZ_reStr s
  clear hok1 hok2 hokc hAB
  generalize reStr s = A at *
  generalize reStr t = C at *
  generalize mAll (runesZ s) = M1 at *
  generalize mAll (runesZ t) = M2 at *
  have hM1 : M1.length ≤ 100000000 := by omega
  have hM2 : M2.length ≤ 100000000 := by omega
  clear hml hrl hml2 hrl2
  go_enter Tryd.func4, Tryd.ntmps4
  go_wp2_with fail
  clear hc1 hc2 hd1 hd2
  refine (HE1.out w2 B2).mono ?_
  rintro e w3 ⟨b3, x3, rfl, o3⟩
  have B3 : Below w.heap.size w w3 := B2.trans (b3.mono z2)
  have z3 := B3.size
  obtain ⟨ax, cx, rfl⟩ : ∃ ao cap, x3 = .slice ao M1.length cap := by
    rcases o3.2 with ⟨rfl, h⟩ | ⟨g, cap, cur, rfl, _⟩
    · exact ⟨_, _, by rw [h]⟩
    · exact ⟨_, _, rfl⟩
  go_wp2_with fail
  refine (HE2.out w3 B3).mono ?_
  rintro e w4 ⟨b4, x4, rfl, o4⟩
  have B4 : Below w.heap.size w w4 := B3.trans (b4.mono z3)
  have z4 := B4.size
  go_wp2_with fail
  refine (HE3.out w4 B4).mono ?_
  rintro e w5 ⟨b5, x5, rfl, o5⟩
  have B5 : Below w.heap.size w w5 := B4.trans (b5.mono z4)
  have z5 := B5.size
  have z34 := b4.size
  have b35 : Below w3.heap.size w3 w5 := b4.trans (b5.mono z34)
  have cs3 := run_string ((View.of_own o3 hby1).below b35)
  have cs4 := run_string ((View.of_own o4 hby2).below b5)
  have cs5 := run_string (View.of_own o5 (hby1.append hby2))
  rw [nums_append] at cs5
  have hn1 : (strOfNums M1).size ≤ 100000000 := by rw [nums_size]; omega
  have hn2 : (strOfNums M2).size ≤ 100000000 := by rw [nums_size]; omega
  clear o3 o4 o5 b35 b3 b4 b5 HE1 HE2 HE3 b1 b2
  generalize strOfNums M1 = S1 at *
  generalize strOfNums M2 = S2 at *
  go_wp2_with fail
  clear cs3 cs4 cs5
  go_loopw [13] (fun c wr => ∃ (pos fuel n : Nat), c = .int .i64 (n : Int) ∧ wr.heap[w5.heap.size]? = some (.stringIter A pos) ∧ Below w.heap.size w wr ∧ n + (encFrom A fuel pos).length = M1.length ∧ A.size ≤ pos + fuel) (fun _ wr => A.size - wr.iterPos w5.heap.size)
  case atStart =>
    refine ⟨0, A.size, 0, rfl, ?_, B5.alloc z5 _, ?_, by omega⟩
    · simpa using World.iter_heap w5 A 0
    · rw [← HZ.out]; simp [encZ]
  case round =>
    obtain ⟨pos, fuel, n, rfl, hit, hbw, hacc, hfu⟩ := hrel
    have hsz : w5.heap.size < wr.heap.size := (Array.getElem?_eq_some_iff.1 hit).1
    by_cases hp : pos < A.size
    · have hnx : ∀ ty, (Instr.next (.pointer (some ⟨w5.heap.size, 0, none⟩)) true ty).run Tryd.prog wr = _ := fun ty => Lib.run_next_any_at wr w5.heap.size A pos ty hit hp
      have hwd := width_pos A pos hp
      have hd1 := decode_rune A pos
      have hit2 := Lib.iterAt_heap wr w5.heap.size A pos (pos + (Utf8.decode A pos).2) hit
      have hbw2 := Lib.below_iterAt hbw (k := w5.heap.size) z5 A (pos + (Utf8.decode A pos).2)
      obtain ⟨f, rfl⟩ : ∃ f, fuel = f + 1 := ⟨fuel - 1, by omega⟩
      have hstep : (encFrom A (f + 1) pos).length = (mcode (Utf8.decode A pos).1).length + (encFrom A f (pos + (Utf8.decode A pos).2)).length := by
        simp [encFrom, hp]
      rw [hstep] at hacc
      clear hstep
      have FIN : Hid (∀ m : Nat, (mcode ((Utf8.decode A pos).1 : Int)).length = m → (∃ (pos' fuel' n' : Nat), Value.int .i64 ((n : Int) + (m : Int)) = .int .i64 (n' : Int) ∧ (wr.iterAt w5.heap.size A (pos + (Utf8.decode A pos).2)).heap[w5.heap.size]? = some (.stringIter A pos') ∧ Below w.heap.size w (wr.iterAt w5.heap.size A (pos + (Utf8.decode A pos).2)) ∧ n' + (encFrom A fuel' pos').length = M1.length ∧ A.size ≤ pos' + fuel') ∧ A.size - (wr.iterAt w5.heap.size A (pos + (Utf8.decode A pos).2)).iterPos w5.heap.size < A.size - wr.iterPos w5.heap.size) := by
        intro m hm
        refine ⟨⟨pos + (Utf8.decode A pos).2, f, n + m, by go_num, hit2, hbw2, by omega, by omega⟩, ?_⟩
        simp only [World.iterPos, hit2, hit]; omega
      have hml := mcode_len ((Utf8.decode A pos).1 : Int)
      have hn : n ≤ 100000000 := by omega
      clear hacc hit2 hbw2
      generalize wr.iterAt w5.heap.size A (pos + (Utf8.decode A pos).2) = wi at *
      generalize (Utf8.decode A pos).1 = dn at *
      have hr0 : (0 : Int) ≤ (dn : Int) := by omega
      have hr1 : (dn : Int) ≤ 1114111 := by omega
      generalize (dn : Int) = r at *
      by_cases c1 : 1 ≤ r ∧ r ≤ 127
      · have F1 := hidIt (FIN.out 1 (by rw [mcode1 c1]; rfl))
        obtain ⟨c1, c2⟩ := c1
        have c1' : 0 < r := by omega
        have c2' : r < 128 := by omega
        go_wp2
        exact F1.out
      · by_cases c2 : r ≤ 2047
        · have F2 := hidIt (FIN.out 2 (by rw [mcode2 c1 c2]; rfl))
          have c3 : r < 2048 := by omega
          have hc : r < 1 ∨ 127 < r := by omega
          clear c1
          rcases hc with hc | hc
          · have hc' : ¬ 0 < r := by omega
            go_wp2
            exact F2.out
          · have hc1 : 0 < r := by omega
            have hc2 : ¬ r < 128 := by omega
            go_wp2
            exact F2.out
        · have hc1 : 0 < r := by omega
          have hc2 : ¬ r < 128 := by omega
          have hc3 : ¬ r < 2048 := by omega
          by_cases c3 : r < 65536
          · have F3 := hidIt (FIN.out 3 (by rw [mcode3 (by omega) c3]; rfl))
            clear c1
            go_wp2
            exact F3.out
          · have F6 := hidIt (FIN.out 6 (by
              rcases mcode6 (r := r) (by omega) with e | e
              · rw [e, List.length_append, mcode_len3 (by omega) (by omega), mcode_len3 (by omega) (by omega)]
              · omega))
            clear c1
            go_wp2
            exact F6.out
    · have hnx : ∀ ty, (Instr.next (.pointer (some ⟨w5.heap.size, 0, none⟩)) true ty).run Tryd.prog wr = _ := fun ty => Lib.run_next_end_at wr w5.heap.size A pos ty hit hp
      rw [encFrom_end A fuel pos hp, List.length_nil, Nat.add_zero] at hacc
      have hzr := hbw.size
      have hb : ((n : Int) == (M1.length : Int)) = true := by simp; omega
      go_wp2_with fail
      refine (known_any wr (hT.below hbw)).mono ?_
      rintro e w6 ⟨rfl, b6⟩
      go_wp2
      go_ret
      exact ⟨rfl, hbw.trans (b6.mono hzr)⟩
end Go.Proofs.YtnnoifofgbibmabDoor
