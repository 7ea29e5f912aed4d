import Derived.Test.YthagaldpopnoeaaGreatDoorYD
import Derived.Lib.TrimUEq
import Derived.Test.YthagaldpopnoeaaGreatDoorYB

/- The document's own Encode. -/
namespace Go.Proofs.YthagaldpopnoeaaGreatDoor
open Go.RowKit

theorem runes_valid (s : ByteArray) : ∀ (n pos : Nat), s.size - pos ≤ n → Lib.validD (s.data.toList.drop pos) = true → (uAll (runesFrom s n pos)).map (fun x => UInt8.ofNat x.toNat) = s.data.toList.drop pos
  | 0, pos, hn, _ => by
    rw [List.drop_eq_nil_of_le (by have := Lib.size_eq s; omega)]; rfl
  | n + 1, pos, hn, hv => by
    unfold runesFrom
    by_cases hp : pos < s.size
    · rw [if_pos hp]
      have hne : s.data.toList.drop pos ≠ [] := by
        intro e
        have := congrArg List.length e
        rw [List.length_drop, ← Lib.size_eq] at this
        simp at this; omega
      rw [Lib.validD_step _ hne] at hv
      have hdl := Lib.decodeL_drop s pos
      by_cases hbad : (Lib.decodeL (s.data.toList.drop pos)).1 = 65533 ∧ (Lib.decodeL (s.data.toList.drop pos)).2 = 1
      · rw [if_pos hbad] at hv; cases hv
      · rw [if_neg hbad, List.drop_drop] at hv
        have he := Lib.encode_decode _ hne hbad
        have hwd := width_pos s pos hp
        rw [hdl] at he hv
        have ih := runes_valid s n (pos + (Utf8.decode s pos).2) (by omega) hv
        rw [uAll_cons, List.map_append, ih]
        have he2 : (Lib.encodeRuneZ ((Utf8.decode s pos).1 : Int)).map (fun x => UInt8.ofNat x.toNat) = (s.data.toList.drop pos).take (Utf8.decode s pos).2 := he
        rw [he2, ← List.drop_drop, List.take_append_drop]
    · rw [if_neg hp, List.drop_eq_nil_of_le (by have := Lib.size_eq s; omega)]; rfl

/-- The text of a valid text's runes is the text. -/
theorem reStr_of_valid (s : ByteArray) (h : Lib.validD s.data.toList = true) : reStr s = s := by
  have := runes_valid s s.size 0 (by omega) (by simpa using h)
  apply ByteArray.ext
  apply Array.ext'
  simpa [reStr, strOfNums, runesZ] using this
theorem reStr_iff (s : ByteArray) : ((reStr s).toList == s.toList) = Lib.validD s.data.toList := by
  cases hv : Lib.validD s.data.toList with
  | true => rw [reStr_of_valid s hv]; simp
  | false =>
    have hne : reStr s ≠ s := by
      intro e
      have := reStr_valid s
      rw [e, hv] at this; cases this
    have : (reStr s).toList ≠ s.toList := by
      intro e
      apply hne
      rw [Lib.toList_data, Lib.toList_data] at e
      apply ByteArray.ext
      exact Array.ext' e
    simpa using this

set_option maxRecDepth 8000 in
set_option maxHeartbeats 400000 in
theorem refvalid_any (s : ByteArray) (w : World) (hs : s.size ≤ 4294967296) :
    Calls Tryz.prog 105 #[.string s] w fun e w' => e = .returned (.bool (Lib.validD s.data.toList)) ∧ Below w.heap.size w w' := by
  obtain ⟨v1, w1, hc1, hc2, b1⟩ := run_reStr w s (by omega)
  have hvd := reStr_iff s
  generalize reStr s = S at *
  rw [← hvd]
  clear hvd
  go_enter Tryz.func105, Tryz.ntmps105
  go_wp2
  go_ret
  exact ⟨rfl, b1⟩

theorem wraps_i63 (n : Int) (h0 : 0 ≤ n) (h1 : n < 2 ^ 62) : IntKind.i64.wrap n = n := by rw [IntKind.wrap_i64]; omega
theorem i64_mask (i : Nat) (hi : i ≤ 62) (x : Int) (h0 : 0 ≤ x) (h1 : x < 4611686018427387904) : bits .and .i64 x (2 ^ i - 1) = x % 2 ^ i :=
  bits_mask .i64 62 (by decide) wraps_i63 i hi x h0 h1
theorem i64_and63 (x : Int) (h0 : 0 ≤ x) (h1 : x < 4611686018427387904) : bits .and .i64 x 63 = x % 64 := i64_mask 6 (by decide) x h0 h1
theorem i64_and1023 (x : Int) (h0 : 0 ≤ x) (h1 : x < 4611686018427387904) : bits .and .i64 x 1023 = x % 1024 := i64_mask 10 (by decide) x h0 h1
theorem i64_and31 (x : Int) (h0 : 0 ≤ x) (h1 : x < 4611686018427387904) : bits .and .i64 x 31 = x % 32 := i64_mask 5 (by decide) x h0 h1
theorem i64_and15 (x : Int) (h0 : 0 ≤ x) (h1 : x < 4611686018427387904) : bits .and .i64 x 15 = x % 16 := i64_mask 4 (by decide) x h0 h1
theorem i64_or224 (y : Int) (h0 : 0 ≤ y) (h1 : y < 16) : bits .or .i64 224 y = 224 + y := bits_join .i64 62 (by decide) wraps_i63 4 224 y (by decide) (by decide) (by decide) h0 h1 (by omega)
theorem i64_or128 (y : Int) (h0 : 0 ≤ y) (h1 : y < 64) : bits .or .i64 128 y = 128 + y := bits_join .i64 62 (by decide) wraps_i63 6 128 y (by decide) (by decide) (by decide) h0 h1 (by omega)
theorem i64_or192 (y : Int) (h0 : 0 ≤ y) (h1 : y < 32) : bits .or .i64 192 y = 192 + y := bits_join .i64 62 (by decide) wraps_i63 5 192 y (by decide) (by decide) (by decide) h0 h1 (by omega)

set_option maxRecDepth 8000 in
set_option maxHeartbeats 800000 in
theorem three_ref (n : Int) (w : World) (h0 : 0 ≤ n) (h1 : n ≤ 65535) :
    Calls Tryz.prog 106 #[.int .i64 n] w fun e w' => e = .returned (.slice (some ⟨w.heap.size, 0, none⟩) 3 3) ∧ w' = w.alloc (.cells (bcells [224 + n / 4096, 128 + n / 64 % 64, 128 + n % 64]).toArray 5) := by
  have e1 := i64_or224 (n / 4096) (by omega) (by omega)
  have e2 := i64_and63 (n / 64) (by omega) (by omega)
  have e3 := i64_or128 (n / 64 % 64) (by omega) (by omega)
  have e4 := i64_and63 n (by omega) (by omega)
  have e5 := i64_or128 (n % 64) (by omega) (by omega)
  go_enter Tryz.func106, Tryz.ntmps106
  go_wp2
  go_ret
  exact ⟨rfl, rfl⟩

/-- three(n)'s bytes are a code's. -/
theorem three_view (n : Int) (w : World) (h0 : 2047 < n) (h1 : n ≤ 65535) :
    Calls Tryz.prog 106 #[.int .i64 n] w fun e w' => Below w.heap.size w w' ∧ ∃ v, e = .returned v ∧ View w' v (mcode n) := by
  refine (three_ref n w (by omega) h1).mono ?_
  rintro e w' ⟨rfl, hw⟩
  have hb : AllBytes (mcode n) := mcode_bytes n (by omega) (by omega)
  rw [mcode3 h0 (by omega)] at hb ⊢
  rw [hw]
  refine ⟨(Below.refl _ _).alloc (Nat.le_refl _) _, _, rfl, View.laid w _ hb (by unfold maxLen; simp)⟩

/-- One rune of the loop: the bytes are appended. -/
theorem Step.of_below_view {v v' : Value} {w w1 w' : World} (hb : Below w.heap.size w w1) (h : Step v w1 v' w') : Step v w v' w' := by
  refine ⟨⟨h.grown.os.trans hb.os, h.grown.tape.trans hb.tape, h.grown.output.trans hb.output, Nat.le_trans hb.size h.grown.size, fun i hi hne => ?_⟩, ?_⟩
  · rw [h.grown.block i (Nat.lt_of_lt_of_le hi hb.size) hne]; exact hb.block i hi
  · rcases h.moved with e | ⟨g, e, hg⟩
    · exact .inl e
    · exact .inr ⟨g, e, Nat.le_trans hb.size hg⟩
theorem own_below {w w' : World} {B n : Nat} {v : Value} {xs : List Value} (h : w.ownsRow B 5 1 v n xs) (hb : Below w.heap.size w w') : w'.ownsRow B 5 1 v n xs := by
  refine ⟨h.1, ?_⟩
  rcases h.2 with h2 | ⟨g, cap, cur, e, hB, hg, r⟩
  · exact .inl h2
  · exact .inr ⟨g, cap, cur, e, hB, (hb.block g (Array.getElem?_eq_some_iff.1 hg).1).trans hg, r⟩

set_option maxRecDepth 8000 in
set_option maxHeartbeats 2000000 in
theorem refenc_bad (s : ByteArray) (w : World) (hs : s.size ≤ 4294967296) (hv : Lib.validD s.data.toList = false) :
    Calls Tryz.prog 62 #[.string s] w fun e w' => e = .returned (.tuple #[.slice none 0 0, .int .i64 12]) ∧ Below w.heap.size w w' := by
  have HV := hidIt (refvalid_any s w hs)
  rw [hv] at HV
  clear hv
  go_enter Tryz.func62, Tryz.ntmps62
  go_wp2_with (go_at_call 105; refine HV.out.mono ?_; rintro e w' ⟨rfl, hb⟩)
  go_ret2
  exact ⟨rfl, hb⟩

set_option maxRecDepth 8000 in
set_option maxHeartbeats 4000000 in
theorem refenc_ok (s : ByteArray) (w : World) (hs : s.size ≤ 4294967296) (hv : Lib.validD s.data.toList = true) :
    Calls Tryz.prog 62 #[.string s] w fun e w' => Below w.heap.size w w' ∧
      ∃ v, e = .returned (.tuple #[v, .int .i64 0]) ∧ w'.ownsRow w.heap.size 5 1 v (encZ s).length (bcells (encZ s)) := by
  have HV := hidIt (refvalid_any s w hs)
  rw [hv] at HV
  clear hv
  obtain ⟨i0, hi, hz0, hz1, hz2⟩ := info_parts Tryz.info5
  go_enter Tryz.func62, Tryz.ntmps62
  go_wp2_with (go_at_call 105; refine HV.out.mono ?_; rintro e w1 ⟨rfl, hb⟩)
  clear HV
  have hz := hb.size
  go_loopw [4] (fun b wr => ∃ (pos fuel : Nat) (acc : List Int), wr.ownsRow w.heap.size 5 1 b acc.length (bcells acc) ∧ wr.heap[w1.heap.size]? = some (.stringIter s pos) ∧ Below w.heap.size w wr ∧ acc ++ encFrom s fuel pos = encZ s ∧ s.size ≤ pos + fuel ∧ acc.length ≤ 6 * pos) (fun _ wr => s.size - wr.iterPos w1.heap.size)
  case atStart =>
    refine ⟨0, s.size, [], World.ownsRow_nil _ _ _ _, ?_, hb.alloc hz _, rfl, by omega, by simp⟩
    simpa using World.iter_heap w1 s 0
  case round =>
    obtain ⟨pos, fuel, acc, hI, hit, hbw, hacc, hfu, hal⟩ := hrel
    have hsz : w1.heap.size < wr.heap.size := (Array.getElem?_eq_some_iff.1 hit).1
    by_cases hp : pos < s.size
    · have hnx : ∀ ty, (Instr.next (.pointer (some ⟨w1.heap.size, 0, none⟩)) true ty).run Tryz.prog wr = _ := fun ty => Lib.run_next_any_at wr w1.heap.size s pos ty hit hp
      have hwd := width_pos s pos hp
      have hd1 := decode_rune s pos
      have hI2 := own_iterAt hI hit (pos + (Utf8.decode s pos).2)
      have hit2 := Lib.iterAt_heap wr w1.heap.size s pos (pos + (Utf8.decode s pos).2) hit
      have hbw2 := Lib.below_iterAt hbw (k := w1.heap.size) hz s (pos + (Utf8.decode s pos).2)
      have hsz2 : w.heap.size ≤ (wr.iterAt w1.heap.size s (pos + (Utf8.decode s pos).2)).heap.size := by rw [Lib.iterAt_size]; omega
      have hszW : w1.heap.size < (wr.iterAt w1.heap.size s (pos + (Utf8.decode s pos).2)).heap.size := by rw [Lib.iterAt_size]; exact hsz
      obtain ⟨f, rfl⟩ : ∃ f, fuel = f + 1 := ⟨fuel - 1, by omega⟩
      have hml := mcode_len ((Utf8.decode s pos).1 : Int)
      have HA : Hid (encFrom s (f + 1) pos = mcode (Utf8.decode s pos).1 ++ encFrom s f (pos + (Utf8.decode s pos).2)) := by
        show _ = _
        simp [encFrom, hp]
      have HB : Hid (acc ++ encFrom s (f + 1) pos = encZ s) := hacc
      clear hacc
      -- what every way of the round comes to
      have FIN : Hid (∀ v1 W1, W1.ownsRow w.heap.size 5 1 v1 (acc.length + (mcode (Utf8.decode s pos).1).length) (bcells acc ++ bcells (mcode (Utf8.decode s pos).1)) → Step u4 (wr.iterAt w1.heap.size s (pos + (Utf8.decode s pos).2)) v1 W1 →
          (∃ (pos' fuel' : Nat) (acc' : List Int), W1.ownsRow w.heap.size 5 1 v1 acc'.length (bcells acc') ∧ W1.heap[w1.heap.size]? = some (.stringIter s pos') ∧ Below w.heap.size w W1 ∧ acc' ++ encFrom s fuel' pos' = encZ s ∧ s.size ≤ pos' + fuel' ∧ acc'.length ≤ 6 * pos') ∧ s.size - W1.iterPos w1.heap.size < s.size - wr.iterPos w1.heap.size) := by
        intro v1 W1 hI3 hst
        have hit3 : W1.heap[w1.heap.size]? = some (.stringIter s (pos + (Utf8.decode s pos).2)) := by
          rw [hst.grown.block w1.heap.size hszW (own_ne_iter hI2 hit2)]; exact hit2
        refine ⟨⟨pos + (Utf8.decode s pos).2, f, acc ++ mcode (Utf8.decode s pos).1, ?_, hit3, hbw2.trans (hst.below hsz2 (fun k h => (hI2.lt k h).1)), ?_, by omega, ?_⟩, ?_⟩
        · rw [bcells_append, List.length_append]; exact hI3
        · rw [← HB.out, HA.out, List.append_assoc]
        · rw [List.length_append]; omega
        · simp only [World.iterPos, hit3, hit]; omega
      clear HA HB hbw2 hbw hit2 hI
      generalize wr.iterAt w1.heap.size s (pos + (Utf8.decode s pos).2) = wi at *
      generalize (Utf8.decode s pos).1 = dn at *
      have hr0 : (0 : Int) ≤ (dn : Int) := by omega
      have hr1 : (dn : Int) ≤ 1114111 := by omega
      generalize (dn : Int) = r at *
      by_cases c1 : 1 ≤ r ∧ r ≤ 127
      · have e1 : mcode r = [r] := mcode1 c1
        rw [e1] at FIN
        obtain ⟨c1, c2⟩ := c1
        have c1' : 0 < r := by omega
        clear e1 hml
        go_wp2_with (at_builtin; refine wpList_append_own_at _ rfl _ _ 22 rfl w.heap.size 5 i0 (.int .u8 0) 1 1 Tryz.underlying22 hi hz0 hz1 hz2 rfl (by decide) _ _ _ rfl (hI2.alloc _) _ 1 1 [.int .u8 r] rfl rfl ?c1 ?c2 ?c3 ?c4 ?c5 ?_)
        case c1 =>
          intro j u hj
          match j, hj with
          | 0, hj => simp at hj; subst hj; simp [Addr.add]
          | (j + 1), hj => simp at hj
        case c2 => intro u hu; simp at hu; rcases hu with rfl; rfl
        case c3 => unfold maxLen; omega
        case c4 => omega
        case c5 => simp; omega
        intro v' w2 hown' hgrow _ hat
        go_wp2
        exact FIN.out _ _ hown' (Step.of_alloc hgrow hat)
      · by_cases c2 : r ≤ 2047
        · have e1 : mcode r = [192 + r / 64, 128 + r % 64] := mcode2 c1 c2
          rw [e1] at FIN
          have f1 := i64_or192 (r / 64) (by omega) (by omega)
          have f2 := i64_and63 r (by omega) (by omega)
          have f3 := i64_or128 (r % 64) (by omega) (by omega)
          have hc : r < 1 ∨ 127 < r := by omega
          clear e1 c1 hml
          have c3 : r < 2048 := by omega
          rcases hc with hc | hc
          · have hc0 : ¬ 0 < r := by omega
            go_wp2_with (at_builtin; refine wpList_append_own_at _ rfl _ _ 22 rfl w.heap.size 5 i0 (.int .u8 0) 1 1 Tryz.underlying22 hi hz0 hz1 hz2 rfl (by decide) _ _ _ rfl (hI2.alloc _) _ 2 2 [.int .u8 (192 + r / 64), .int .u8 (128 + r % 64)] rfl rfl ?pa1 ?pa2 ?pa3 ?pa4 ?pa5 ?_)
            case pa2 => first | exact ⟨rfl, rfl⟩ | (intro u hu; simp at hu; rcases hu with rfl | rfl <;> rfl)
            case pa3 => first | omega | (unfold maxLen; omega) | (unfold maxLen at *; omega)
            case pa4 => omega
            case pa5 => first | omega | (simp; omega)
            intro v' w2 hown' hgrow _ hat
            go_wp2
            exact FIN.out _ _ hown' (Step.of_alloc hgrow hat)
          · have hc0 : 0 < r := by omega
            have hc1 : ¬ r < 128 := by omega
            go_wp2_with (at_builtin; refine wpList_append_own_at _ rfl _ _ 22 rfl w.heap.size 5 i0 (.int .u8 0) 1 1 Tryz.underlying22 hi hz0 hz1 hz2 rfl (by decide) _ _ _ rfl (hI2.alloc _) _ 2 2 [.int .u8 (192 + r / 64), .int .u8 (128 + r % 64)] rfl rfl ?pb1 ?pb2 ?pb3 ?pb4 ?pb5 ?_)
            case pb2 => first | exact ⟨rfl, rfl⟩ | (intro u hu; simp at hu; rcases hu with rfl | rfl <;> rfl)
            case pb3 => first | omega | (unfold maxLen; omega) | (unfold maxLen at *; omega)
            case pb4 => omega
            case pb5 => first | omega | (simp; omega)
            intro v' w2 hown' hgrow _ hat
            go_wp2
            exact FIN.out _ _ hown' (Step.of_alloc hgrow hat)
        · by_cases c3 : r < 65536
          · clear c1
            have c1 : 127 < r := by omega
            have c4 : ¬ r < 2048 := by omega
            go_wp2_with fail
            refine (three_view r wi (by omega) (by omega)).mono ?_
            rintro e w2 ⟨b2, v2, rfl, V2⟩
            have hI4 := own_below hI2 b2
            have z2 := b2.size
            go_wp2_with (at_builtin; refine wpList_append_view rfl _ _ rfl w.heap.size u4 v2 _ _ (mcode r) rfl hI4 rfl V2 (by omega) (by omega) ?_; intro v3 w3 ho3 hst3)
            go_wp2
            exact FIN.out _ _ ho3 (Step.of_below_view b2 hst3)
          · have e6 : mcode r = mcode (55296 + (r - 65536) / 1024) ++ mcode (56320 + (r - 65536) % 1024) := by
              rcases mcode6 (r := r) (by omega) with e | e
              · exact e
              · omega
            rw [e6, bcells_append, List.length_append] at FIN
            have f1 := i64_and1023 (r - 65536) (by omega) (by omega)
            have k1 := mcode_len (55296 + (r - 65536) / 1024)
            have k2 := mcode_len (56320 + (r - 65536) % 1024)
            clear c1 e6 hml
            have c1 : 127 < r := by omega
            have c4 : ¬ r < 2048 := by omega
            go_wp2_with fail
            refine (three_view _ wi (by omega) (by omega)).mono ?_
            rintro e w2 ⟨b2, v2, rfl, V2⟩
            have hI4 := own_below hI2 b2
            have z2 := b2.size
            go_wp2_with (first
              | (at_builtin; refine wpList_append_view rfl _ _ rfl w.heap.size u4 v2 _ _ (mcode (55296 + (r - 65536) / 1024)) rfl hI4 rfl V2 (by omega) (by omega) ?_; intro v3 w3 ho3 hst3)
              | fail)
            have z3 := hst3.grown.size
            refine (three_view _ w3 (by omega) (by omega)).mono ?_
            rintro e w4 ⟨b4, v4, rfl, V4⟩
            have hI5 := own_below ho3 b4
            have z4 := b4.size
            go_wp2_with (at_builtin; refine wpList_append_view rfl _ _ rfl w.heap.size v3 v4 _ _ (mcode (56320 + (r - 65536) % 1024)) rfl hI5 rfl V4 (by omega) (by omega) ?_; intro v5 w5 ho5 hst5)
            go_wp2
            refine FIN.out _ _ ?_ ((Step.of_below_view b2 hst3).trans (Step.of_below_view b4 hst5))
            rw [← List.append_assoc, ← Nat.add_assoc]; exact ho5
    · have hnx : ∀ ty, (Instr.next (.pointer (some ⟨w1.heap.size, 0, none⟩)) true ty).run Tryz.prog wr = _ := fun ty => Lib.run_next_end_at wr w1.heap.size s pos ty hit hp
      go_wp2
      go_ret2
      refine ⟨hbw, ?_⟩
      rw [encFrom_end s fuel pos hp, List.append_nil] at hacc
      subst hacc
      exact ⟨_, rfl, hI⟩
end Go.Proofs.YthagaldpopnoeaaGreatDoor

/- The document's own Number and Text. -/
namespace Go.Proofs.YthagaldpopnoeaaGreatDoor
open Go.RowKit

set_option maxRecDepth 8000 in
set_option maxHeartbeats 400000 in
theorem refwidth_any (n : Int) (w : World) :
    Calls Tryz.prog 63 #[.int .i64 n] w fun e w' => e = .returned (.int .i64 (min (max n 1) 8)) ∧ w' = w := by
  by_cases h1 : n < 1
  · rw [show min (max n 1) 8 = 1 by omega]
    go_enter Tryz.func63, Tryz.ntmps63
    go_wp2
    go_ret
    exact ⟨rfl, rfl⟩
  · by_cases h8 : 8 < n
    · rw [show min (max n 1) 8 = 8 by omega]
      go_enter Tryz.func63, Tryz.ntmps63
      go_wp2
      go_ret
      exact ⟨rfl, rfl⟩
    · rw [show min (max n 1) 8 = n by omega]
      go_enter Tryz.func63, Tryz.ntmps63
      go_wp2
      go_ret
      exact ⟨rfl, rfl⟩

theorem run_shru (w : World) (n : Int) (k : Nat) (hk : k ≤ 7) : (Op.shift .shr .u64 n .u64 (8 * (k : Int))).run Tryz.prog w = .ok (.int .u64 (n / 2 ^ (8 * k))) w := by
  have h1 : ¬ (8 * (k : Int) < 0) := by omega
  have h2 : min (8 * (k : Int)).toNat IntKind.u64.bits = 8 * k := by simp [IntKind.bits]; omega
  have h3 : (0 : Int) ≤ 2 ^ (8 * k) := Int.pow_nonneg (by decide)
  simp only [Op.shift, if_neg h1, h2, Sem.run_pure, Int.fdiv_eq_ediv_of_nonneg _ h3]

theorem wrap_u64e (n : Int) : IntKind.u64.wrap n = n % 18446744073709551616 := by simp [IntKind.wrap, IntKind.bits, IntKind.signed]
theorem byte_of (n : Int) (k : Nat) (hk : k ≤ 7) : n % 18446744073709551616 / 2 ^ (8 * k) % 256 = n / 2 ^ (8 * k) % 256 := by
  match k, hk with
  | 0, _ => simp
  | 1, _ => simp; omega
  | 2, _ => simp; omega
  | 3, _ => simp; omega
  | 4, _ => simp; omega
  | 5, _ => simp; omega
  | 6, _ => simp; omega
  | 7, _ => simp; omega

set_option maxRecDepth 8000 in
set_option maxHeartbeats 2000000 in
theorem refnum_any (v : Value) (l : List Int) (n bytes : Int) (w : World) (hv : View w v l) (hlen : l.length ≤ 1099511627776) :
    Calls Tryz.prog 30 #[v, .int .i64 n, .int .i64 bytes] w fun e w' => Below w.heap.size w w' ∧ ∃ u, e = .returned u ∧ w'.ownsRow w.heap.size 5 1 u (l ++ be n (min (max bytes 1) 8).toNat).length (bcells (l ++ be n (min (max bytes 1) 8).toNat)) := by
  obtain ⟨i0, hi, hz0, hz1, hz2⟩ := info_parts Tryz.info5
  obtain ⟨wd, hwd⟩ : ∃ wd : Nat, min (max bytes 1) 8 = (wd : Int) := ⟨(min (max bytes 1) 8).toNat, by omega⟩
  have hw8 : wd ≤ 8 := by omega
  have hw1 : 1 ≤ wd := by omega
  have HW : Hid (∀ wx, Calls Tryz.prog 63 #[.int .i64 bytes] wx fun e w' => e = .returned (.int .i64 (wd : Int)) ∧ w' = wx) := by
    intro wx
    have := refwidth_any bytes wx
    rwa [hwd] at this
  rw [hwd, Int.toNat_natCast]
  clear hwd
  have hown0 : (w.alloc (.cells #[] 5)).ownsRow w.heap.size 5 1 (.slice (some ⟨w.heap.size, 0, none⟩) 0 0) 0 [] := World.ownsRow_made w #[] 0 (Nat.le_refl _) (by unfold maxLen; omega) rfl
  have hv0 : View (w.alloc (.cells #[] 5)) v l := hv.below ((Below.refl _ _).alloc (Nat.le_refl _) _)
  go_enter Tryz.func30, Tryz.ntmps30
  go_wp2_with (first
    | (at_builtin; refine wpList_append_view rfl _ _ rfl w.heap.size (.slice (some ⟨w.heap.size, 0, none⟩) 0 0) v _ _ l rfl hown0 rfl hv0 (by omega) (by simp) ?_; intro v1 w1 ho1 hst1)
    | (go_at_call 63; refine (HW.out _).mono ?_; rintro e w' ⟨rfl, hww⟩; cases hww))
  have hb1 : Below w.heap.size w w1 := ((Below.refl _ _).alloc (Nat.le_refl _) _).trans (hst1.below (by simp) (fun k h => (hown0.lt k h).1))
  have ho1' : w1.ownsRow w.heap.size 5 1 v1 l.length (bcells l) := by simpa using ho1
  clear ho1 hst1 hown0 hv0 hv HW
  go_loopw [7, 8] (fun u i wr => ∃ (j : Nat) (acc : List Int), i = .int .i64 ((j : Int) - 1) ∧ wr.ownsRow w.heap.size 5 1 u (l ++ acc).length (bcells (l ++ acc)) ∧ Below w.heap.size w wr ∧ acc ++ be n j = be n wd ∧ j ≤ 8) (fun _ i _ => (intOf i + 1).toNat)
  case atStart => exact ⟨wd, [], rfl, by simpa using ho1', hb1, rfl, hw8⟩
  case round =>
    obtain ⟨j, acc, rfl, hI, hbw, hacc, hj8⟩ := hrel
    have HA := hidIt hacc
    have hsz := hbw.size
    clear hacc
    match j, HA, hj8 with
    | 0, HA, hj8 =>
      go_wp2
      go_ret
      have := HA.out
      simp only [be, List.append_nil] at this
      rw [← this]
      exact ⟨hbw, _, rfl, hI⟩
    | k + 1, HA, hj8 =>
      have hk0 : (0 : Int) ≤ (k : Int) := by omega
      have hk8 : (k : Int) ≤ 7 := by omega
      rw [show (((k + 1 : Nat) : Int) - 1) = (k : Int) by omega]
      have hal : (l ++ acc).length ≤ l.length + 8 := by
        have := congrArg List.length HA.out
        rw [List.length_append, be_len, be_len] at this
        rw [List.length_append]; omega
      have hwk : IntKind.i64.wrap (8 * (k : Int)) = 8 * (k : Int) := wraps_small _ (by omega) (by omega)
      have hsh : ∀ wx, (Op.shift .shr .u64 (n % 18446744073709551616) .u64 (8 * (k : Int))).run Tryz.prog wx = .ok (.int .u64 (n % 18446744073709551616 / 2 ^ (8 * k))) wx := fun wx => run_shru wx _ k (by omega)
      go_wp2_with (at_builtin; refine wpList_append_own_at _ rfl _ _ 22 rfl w.heap.size 5 i0 (.int .u8 0) 1 1 Tryz.underlying22 hi hz0 hz1 hz2 rfl (by decide) _ _ _ rfl (hI.alloc _) _ 1 1 [_] rfl rfl (cell_one_new _ _ _) (by intro u hu; simp at hu; subst hu; rfl) (by unfold maxLen; omega) (by omega) (by simp; omega) ?_; intro v' w2 hown' hgrow _ hat)
      go_wp2
      rw [wrap_u64e, byte_of n k (by omega)] at hown'
      refine ⟨⟨k, acc ++ [n / 2 ^ (8 * k) % 256], rfl, ?_, (hbw.alloc hsz _).grown hgrow (by simp; omega) (fun k h => (hI.lt k h).1), ?_, by omega⟩, by simp [intOf]⟩
      · rw [← List.append_assoc, List.length_append, bcells_append]; exact hown'
      · rw [List.append_assoc]; exact HA.out

theorem refnum2 (v : Value) (l : List Int) (n : Int) (w : World) (hv : View w v l) (hlen : l.length ≤ 1099511627776) :
    Calls Tryz.prog 30 #[v, .int .i64 n, .int .i64 2] w fun e w' => Below w.heap.size w w' ∧ ∃ u, e = .returned u ∧ w'.ownsRow w.heap.size 5 1 u (l ++ be n 2).length (bcells (l ++ be n 2)) := by
  have := refnum_any v l n 2 w hv hlen
  rwa [show (min (max (2 : Int) 1) 8).toNat = 2 by decide] at this

theorem own_weaken {w : World} {B B' n : Nat} {v : Value} {xs : List Value} (h : w.ownsRow B 5 1 v n xs) (hB : B' ≤ B) : w.ownsRow B' 5 1 v n xs := by
  refine ⟨h.1, ?_⟩
  rcases h.2 with x | ⟨g, cap, cur, e, hb, r⟩
  · exact .inl x
  · exact .inr ⟨g, cap, cur, e, by omega, r⟩

set_option maxRecDepth 8000 in
set_option maxHeartbeats 2000000 in
theorem reftext_any (v : Value) (l : List Int) (s : ByteArray) (w : World) (hv : View w v l) (hlen : l.length ≤ 549755813888) (hs : s.size ≤ 4294967296) :
    Calls Tryz.prog 28 #[v, .string s] w fun e w' => Below w.heap.size w w' ∧ ∃ u, e = .returned u ∧ w'.ownsRow w.heap.size 5 1 u (l ++ wtextZ s).length (bcells (l ++ wtextZ s)) := by
  cases hvd : Lib.validD s.data.toList with
  | false =>
    rw [show wtextZ s = be 0 2 by unfold wtextZ; rw [if_neg (by simp [hvd])]]
    have HE := hidIt (refenc_bad s w hs hvd)
    clear hvd
    go_enter Tryz.func28, Tryz.ntmps28
    go_wp2_with fail
    refine HE.out.mono ?_
    rintro e w1 ⟨rfl, b1⟩
    have z1 := b1.size
    go_wp2_with fail
    refine (refnum2 v l 0 w1 (hv.below b1) (by omega)).mono ?_
    rintro e w2 ⟨b2, u2, rfl, o2⟩
    go_wp2
    go_ret
    exact ⟨b1.trans (b2.mono z1), _, rfl, own_weaken o2 z1⟩
  | true =>
    have HE := hidIt (refenc_ok s w hs hvd)
    have hel := encFrom_len s s.size 0
    have hby := encZ_bytes s
    by_cases h256 : (encZ s).length ≤ 256
    · rw [show wtextZ s = be ((encZ s).length : Nat) 2 ++ encZ s by unfold wtextZ; rw [if_pos ⟨hvd, h256⟩]]
      clear hvd hel
      generalize encZ s = E at *
      generalize hE : E.length = n at *
      have hn : (n : Int) ≤ 256 := by omega
      go_enter Tryz.func28, Tryz.ntmps28
      go_wp2_with fail
      refine HE.out.mono ?_
      rintro e w1 ⟨b1, ve, rfl, oe⟩
      have z1 := b1.size
      obtain ⟨aoe, cape, rfl⟩ := own_slice oe
      go_wp2_with fail
      refine (refnum2 v l (n : Int) w1 (hv.below b1) (by omega)).mono ?_
      rintro e w2 ⟨b2, u2, rfl, o2⟩
      have z2 := b2.size
      have Ve : View w2 (.slice aoe n cape) E := (View.of_own (l := E) (by rw [hE]; exact oe) hby).below b2
      have hl2 : (l ++ be (n : Int) 2).length + E.length ≤ 140737488355328 := by rw [List.length_append, be_len]; omega
      go_wp2_with (at_builtin; refine wpList_append_view rfl _ _ rfl w1.heap.size u2 _ _ _ E rfl o2 rfl Ve hl2 z2 ?_; intro v3 w3 ho3 hst3)
      go_wp2
      go_ret
      refine ⟨b1.trans ((b2.trans (hst3.below z2 (fun k h => (o2.lt k h).1))).mono z1), _, rfl, own_weaken ?_ z1⟩
      rw [← List.append_assoc, List.length_append, bcells_append]; exact ho3
    · rw [show wtextZ s = be 0 2 by unfold wtextZ; rw [if_neg (fun h => h256 h.2)]]
      clear hvd
      generalize encZ s = E at *
      generalize hE : E.length = n at *
      have hn : (256 : Int) < (n : Int) := by omega
      go_enter Tryz.func28, Tryz.ntmps28
      go_wp2_with fail
      refine HE.out.mono ?_
      rintro e w1 ⟨b1, ve, rfl, oe⟩
      have z1 := b1.size
      obtain ⟨aoe, cape, rfl⟩ := own_slice oe
      go_wp2_with fail
      refine (refnum2 v l 0 w1 (hv.below b1) (by omega)).mono ?_
      rintro e w2 ⟨b2, u2, rfl, o2⟩
      go_wp2
      go_ret
      exact ⟨b1.trans (b2.mono z1), _, rfl, own_weaken o2 z1⟩
end Go.Proofs.YthagaldpopnoeaaGreatDoor
