/- Writer.Text writes how many bytes a text has when it is encoded, and these; of one that may not be: 0 and nothing. -/
import Derived.Test.YthagaldpopnoeaaGreatDoorWrB
namespace Go.Proofs.YthagaldpopnoeaaGreatDoor
open Go.RowKit

/-- What Writer.Text writes. -/
def wtextZ (s : ByteArray) : List Int := if Lib.validD s.data.toList = true ∧ (encZ s).length ≤ 256 then be ((encZ s).length : Nat) 2 ++ encZ s else be 0 2

theorem wtextZ_len (s : ByteArray) : (wtextZ s).length ≤ 258 := by
  unfold wtextZ
  split
  · rw [List.length_append, be_len]; omega
  · rw [be_len]; omega
theorem wtextZ_bytes (s : ByteArray) : AllBytes (wtextZ s) := by
  unfold wtextZ
  split
  · exact (be_bytes _ _).append (encZ_bytes s)
  · exact be_bytes _ _

theorem View.empty (w : World) : View w (.slice none 0 0) [] := ⟨none, 0, rfl, Nat.le_refl _, by unfold maxLen; omega, AllBytes.nil, .inl rfl⟩

/-- Number of two bytes and then bytes: what both ways of Text end in. -/
theorem wnum2 (B pw : Nat) (v0 : Value) (l : List Int) (n : Int) (w : World) (h : IsW B pw w v0 l) (hB : B ≤ w.heap.size) (hlen : l.length ≤ 1099511627776) :
    Calls Tryz.prog 130 #[.pointer (some ⟨pw, 0, none⟩), .int .i64 n, .int .i64 2] w fun e w' => e = .returned (.tuple #[]) ∧ ∃ v, IsW B pw w' v (l ++ be n 2) ∧ WStep pw v0 w v w' := by
  have := wnum_any B pw v0 l n 2 w h hB hlen
  rwa [show (min (max (2 : Int) 1) 8).toNat = 2 by decide] at this

set_option maxRecDepth 8000 in
set_option maxHeartbeats 2000000 in
theorem wtext_any (B pw : Nat) (v0 : Value) (l : List Int) (s : ByteArray) (w : World) (h : IsW B pw w v0 l) (hB : B ≤ w.heap.size) (hlen : l.length ≤ 549755813888) (hT : Tabs w) (hs : s.size ≤ 17179869184) :
    Calls Tryz.prog 90 #[.pointer (some ⟨pw, 0, none⟩), .string s] w fun e w' => e = .returned (.tuple #[]) ∧ ∃ v, IsW B pw w' v (l ++ wtextZ s) ∧ WStep pw v0 w v w' := by
  cases hv : Lib.validD s.data.toList with
  | false =>
    have hz : wtextZ s = be 0 2 := by unfold wtextZ; rw [if_neg (by simp [hv])]
    rw [hz]
    have HE := hidIt (encode_no s w hT (by omega) hv)
    clear hv hz
    go_enter Tryz.func90, Tryz.ntmps90
    go_wp2_with fail
    refine HE.out.mono ?_
    rintro e w1 ⟨rfl, b1⟩
    have h1 := h.below b1
    have hs1 := b1.size
    go_wp2_with fail
    refine (wnum2 B pw v0 l 0 w1 h1 (by omega) (by omega)).mono ?_
    rintro e w2 ⟨rfl, v2, h2, st2⟩
    have hs2 := st2.size
    go_wp2_with fail
    refine (wbytes_any B pw v2 _ _ [] w2 h2 (View.empty w2) (by omega) (by rw [List.length_append, be_len]; simp; omega)).mono ?_
    rintro e w3 ⟨rfl, v3, h3, st3⟩
    go_wp2
    go_end0
    refine ⟨rfl, v3, by simpa using h3, (WStep.of_below b1).trans (st2.trans st3)⟩
  | true =>
    have HE := hidIt (encode_yes s w hT (by omega) hv)
    have hel := encFrom_len s s.size 0
    have hby := encZ_bytes s
    by_cases h256 : (encZ s).length ≤ 256
    · have hz : wtextZ s = be ((encZ s).length : Nat) 2 ++ encZ s := by unfold wtextZ; rw [if_pos ⟨hv, h256⟩]
      rw [hz]
      clear hv hz hel
      generalize encZ s = E at *
      generalize hE : E.length = n at *
      have hn : (n : Int) ≤ 256 := by omega
      go_enter Tryz.func90, Tryz.ntmps90
      go_wp2_with fail
      refine HE.out.mono ?_
      rintro e w1 ⟨b1, ve, rfl, oe⟩
      have h1 := h.below b1
      have hs1 := b1.size
      obtain ⟨aoe, cape, rfl⟩ := own_slice oe
      have hoe := oe.lt
      go_wp2_with fail
      refine (wnum2 B pw v0 l (n : Int) w1 h1 (by omega) (by omega)).mono ?_
      rintro e w2 ⟨rfl, v2, h2, st2⟩
      have hs2 := st2.size
      have hpl := h.lt
      have oe2 := own_wstep st2 oe (fun e => by have := hoe pw e; omega) (by
        cases hx : Value.ownBlock (.slice aoe n cape) with
        | none => exact .inl rfl
        | some k =>
          right
          intro e
          have a1 := hoe k hx
          have a2 := h.own.lt k e.symm
          omega)
      have hV := View.of_own (l := E) (by rw [hE]; exact oe2) hby
      go_wp2_with fail
      refine (wbytes_any B pw v2 _ _ E w2 h2 hV (by omega) (by rw [List.length_append, be_len]; omega)).mono ?_
      rintro e w3 ⟨rfl, v3, h3, st3⟩
      go_wp2
      go_end0
      refine ⟨rfl, v3, by simpa using h3, (WStep.of_below b1).trans (st2.trans st3)⟩
    · have hz : wtextZ s = be 0 2 := by unfold wtextZ; rw [if_neg (fun h => h256 h.2)]
      rw [hz]
      clear hv hz
      generalize encZ s = E at *
      generalize hE : E.length = n at *
      have hn : (256 : Int) < (n : Int) := by omega
      go_enter Tryz.func90, Tryz.ntmps90
      go_wp2_with fail
      refine HE.out.mono ?_
      rintro e w1 ⟨b1, ve, rfl, oe⟩
      have h1 := h.below b1
      have hs1 := b1.size
      obtain ⟨aoe, cape, rfl⟩ := own_slice oe
      go_wp2_with fail
      refine (wnum2 B pw v0 l 0 w1 h1 (by omega) (by omega)).mono ?_
      rintro e w2 ⟨rfl, v2, h2, st2⟩
      have hs2 := st2.size
      go_wp2_with fail
      refine (wbytes_any B pw v2 _ _ [] w2 h2 (View.empty w2) (by omega) (by rw [List.length_append, be_len]; simp; omega)).mono ?_
      rintro e w3 ⟨rfl, v3, h3, st3⟩
      go_wp2
      go_end0
      refine ⟨rfl, v3, by simpa using h3, (WStep.of_below b1).trans (st2.trans st3)⟩
end Go.Proofs.YthagaldpopnoeaaGreatDoor
