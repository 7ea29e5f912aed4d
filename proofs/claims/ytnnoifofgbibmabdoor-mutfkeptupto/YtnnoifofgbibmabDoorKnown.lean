/- Some of chapter 1's runs, as the law's helper 'known' asks them, come out true in whatever world. -/
import Derived.Test.YtnnoifofgbibmabDoorEnc
import Derived.Test.YtnnoifofgbibmabDoorDecC
namespace Go.Proofs.YtnnoifofgbibmabDoor
open Go.RowKit

/-- The library's two tables hold what its text lays. -/
def Tabs (w : World) : Prop := Lib.Utf8Tabs (Tryd.lays196_ren.g 3) (Tryd.lays196_ren.g 4) w
theorem Tabs.below {w wr : World} (h : Tabs w) (hb : Below w.heap.size w wr) : Tabs wr :=
  ⟨fun c hc => cell_later hb (h.1 c hc), fun i hi => ⟨cell_later hb (h.2 i hi).1, cell_later hb (h.2 i hi).2⟩⟩

theorem encode_yes (s : ByteArray) (w : World) (hT : Tabs w) (hs : s.size ≤ 1099511627776) (hv : Lib.validD s.data.toList = true) :
    Calls Tryd.prog 8 #[.string s] w fun e w' => Below w.heap.size w w' ∧
      ∃ v, e = .returned (.tuple #[v, .int .i64 0]) ∧ w'.ownsRow w.heap.size 5 1 v (encZ s).length (bcells (encZ s)) :=
  encode_ok s w hs (by have := Tryd.utf8_ValidString s w (by omega) hT; rwa [hv] at this)
theorem encode_no (s : ByteArray) (w : World) (hT : Tabs w) (hs : s.size ≤ 1099511627776) (hv : Lib.validD s.data.toList = false) :
    Calls Tryd.prog 8 #[.string s] w fun e w' => e = .returned (.tuple #[.slice none 0 0, .int .i64 12]) ∧ Below w.heap.size w w' :=
  encode_bad s w (by have := Tryd.utf8_ValidString s w (by omega) hT; rwa [hv] at this)

theorem enc_zero : encZ ⟨#[0]⟩ = [192, 128] := by decide +kernel
theorem enc_pair : encZ ⟨#[240, 144, 128, 128]⟩ = [237, 160, 128, 237, 176, 128] := by decide +kernel
theorem valid_zero : Lib.validD (ByteArray.mk #[0]).data.toList = true := by decide +kernel
theorem valid_pair : Lib.validD (ByteArray.mk #[240, 144, 128, 128]).data.toList = true := by decide +kernel
theorem dec_zero : decL [0] = none := by decide +kernel

/-- A view of bytes just laid. -/
theorem View.laid (w : World) (l : List Int) (hb : AllBytes l) (hm : l.length ≤ maxLen) : View (w.alloc (.cells (bcells l).toArray 5)) (.slice (some ⟨w.heap.size, 0, none⟩) l.length l.length) l := by
  refine ⟨_, _, rfl, Nat.le_refl _, hm, hb, .inr ⟨_, _, rfl, fun j x hj => ?_⟩⟩
  have h := cell_of_row (w.alloc (.cells (bcells l).toArray 5)) w.heap.size (0 + j) (bcells l).toArray 5 (0, 0) (heap_alloc_new w _)
  rw [h]
  simp [bcells, hj]

set_option maxHeartbeats 2000000 in
theorem known_any (w : World) (hT : Tabs w) : Calls Tryd.prog 14 #[] w fun e w' => e = .returned (.bool true) ∧ Below w.heap.size w w' := by
  go_enter Tryd.func14, Tryd.ntmps14
  go_wp2_with fail
  refine (encode_yes ⟨#[0]⟩ w hT (by decide) valid_zero).mono ?_
  rw [enc_zero]
  rintro e w1 ⟨b1, v1, rfl, o1⟩
  have hT1 := hT.below b1
  go_wp2_with fail
  refine (encode_yes ⟨#[240, 144, 128, 128]⟩ w1 hT1 (by decide) valid_pair).mono ?_
  rw [enc_pair]
  rintro e w2 ⟨b2, v2, rfl, o2⟩
  go_wp2_with fail
  refine (decode_any _ [0] _ (View.laid w2 [0] (by unfold AllBytes; decide) (by unfold maxLen; decide)) (by decide)).mono ?_
  rw [dec_zero]
  rintro e w3 ⟨b3, h3⟩
  obtain rfl : e = .returned (.tuple #[.string ⟨#[]⟩, .int .i64 12]) := by
    rcases h3 with ⟨xs, h, _⟩ | ⟨_, h⟩
    · cases h
    · exact h
  have b23 : Below w2.heap.size w2 w3 := ((Below.refl _ _).alloc (Nat.le_refl _) _).trans (b3.mono (by simp))
  have hs1 := b1.size
  have hs2 := b2.size
  have V1 : View w3 v1 [192, 128] := ((View.of_own o1 (by unfold AllBytes; decide)).below b2).below b23
  have V2 : View w3 v2 [237, 160, 128, 237, 176, 128] := (View.of_own o2 (by unfold AllBytes; decide)).below b23
  have c1 := run_string V1
  rw [show strOfNums [192, 128] = ⟨#[192, 128]⟩ from rfl] at c1
  have c2 := run_string V2
  rw [show strOfNums [237, 160, 128, 237, 176, 128] = ⟨#[237, 160, 128, 237, 176, 128]⟩ from rfl] at c2
  have bb : Below w.heap.size w w3 := b1.trans ((b2.mono hs1).trans (b23.mono (by omega)))
  clear V1 V2 b1 b2 b3 h3 b23 o1 o2 hT hT1 hs1 hs2
  go_wp2
  go_ret
  exact ⟨rfl, bb⟩
end Go.Proofs.YtnnoifofgbibmabDoor
