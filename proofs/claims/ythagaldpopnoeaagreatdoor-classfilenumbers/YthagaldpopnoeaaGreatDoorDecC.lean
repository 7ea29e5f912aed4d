/- Decode gives the text that the bytes are the modified UTF-8 of, or ErrForm. -/
import Derived.Test.YthagaldpopnoeaaGreatDoorDecB
import Derived.Test.YthagaldpopnoeaaGreatDoorShelf
namespace Go.Proofs.YthagaldpopnoeaaGreatDoor
open Go.RowKit

theorem frune_range (l : List Int) (hb : AllBytes l) : (frune l).2 ≤ l.length ∧ 0 ≤ (frune l).1 ∧ (frune l).1 ≤ 1114111 ∧ (frune l).2 ≤ 6 := by
  have h1 := fcode_range l hb
  have h2 := fcode_range (l.drop 3) (fun x hx => hb x (List.mem_of_mem_drop hx))
  rw [List.length_drop] at h2
  unfold frune
  generalize fcode l = a at *
  generalize fcode (l.drop 3) = b at *
  obtain ⟨a1, a2⟩ := a
  obtain ⟨b1, b2⟩ := b
  simp only at h1 h2 ⊢
  obtain ⟨h10, h11, h12, h13, h14, h15⟩ := h1
  obtain ⟨h20, h21, h22, h23, h24, h25⟩ := h2
  split
  · simp only; omega
  · split
    · simp
    · split
      · simp
      · have := h24 (by omega)
        simp only; omega

/-- What Decode makes of the bytes: the text's own bytes, or nothing. -/
def decFrom : Nat → List Int → Option (List Int)
  | _, [] => some []
  | 0, _ :: _ => none
  | f + 1, x :: t => if (frune (x :: t)).2 = 0 then none else (decFrom f ((x :: t).drop (frune (x :: t)).2)).map (Lib.encodeRuneZ (frune (x :: t)).1 ++ ·)
def decL (l : List Int) : Option (List Int) := decFrom l.length l

def lenOf : Value → Nat
  | .slice _ n _ => n
  | _ => 0

theorem View.below {w wr : World} {v : Value} {l : List Int} (h : View w v l) (hb : Below w.heap.size w wr) : View wr v l := by
  obtain ⟨ao, cap, rfl, hc, hm, hy, hl⟩ := h
  refine ⟨ao, cap, rfl, hc, hm, hy, ?_⟩
  rcases hl with h | ⟨g, off, e, hl⟩
  · exact .inl h
  · exact .inr ⟨g, off, e, fun j x hj => cell_later hb (hl j x hj)⟩

/-- A row that is owned is a view of its bytes. -/
theorem View.of_own {w : World} {B : Nat} {v : Value} {l : List Int} (h : w.ownsRow B 5 1 v l.length (bcells l)) (hb : AllBytes l) : View w v l := by
  rcases h.2 with ⟨rfl, h0⟩ | ⟨g, cap, cur, rfl, _, hg, h1, h2, h3, h4⟩
  · have : l = [] := List.length_eq_zero_iff.1 h0
    subst this
    exact ⟨none, 0, rfl, Nat.le_refl _, by unfold maxLen; omega, hb, .inl rfl⟩
  · refine ⟨some ⟨g, 0, none⟩, cap, rfl, h1, h2, hb, .inr ⟨g, 0, rfl, fun j x hj => ?_⟩⟩
    have hj' : (bcells l)[j]? = some (.int .u8 x) := by simp [bcells, hj]
    have := h.cells (g := g) rfl j _ hj'
    have e : (⟨g, 0, none⟩ : Addr).add j = ⟨g, 0 + j, none⟩ := by unfold Addr.add; split <;> simp_all
    rwa [e] at this

/-- string(v) of a view: the bytes. -/
theorem run_string {w : World} {v : Value} {l : List Int} (h : View w v l) : (convert 22 9 v).run Tryz.prog w = .ok (.string (strOfNums l)) w := by
  obtain ⟨ao, cap, rfl, hc, hm, hy, hl⟩ := h
  rcases hl with rfl | ⟨g, off, rfl, hl⟩
  · cases ao with
    | none => exact run_convert_bytes_nil (P := Tryz.prog) w 22 5 Tryz.underlying22 Tryz.underlying5 0 cap 9 Tryz.underlying9
    | some a =>
      rw [run_convert_bytes_string w 22 9 5 _ _ _ Tryz.underlying22 Tryz.underlying5 Tryz.underlying9]
      exact run_bytesToString w a 0 cap [] (by simp [loadCells, loadCellsFrom])
  · exact run_convert_bytes_arg (P := Tryz.prog) w 22 5 Tryz.underlying22 Tryz.underlying5 g off l.length cap l rfl (fun i hi => by
      rw [hl i l[i] (by simp [hi])]; simp [List.getD, hi]) 9 Tryz.underlying9

set_option maxRecDepth 8000 in
set_option maxHeartbeats 2000000 in
theorem decode_any (v : Value) (l : List Int) (w : World) (hv : View w v l) (hlen : l.length ≤ 1099511627776) :
    Calls Tryz.prog 111 #[v] w fun e w' => Below w.heap.size w w' ∧
      ((∃ xs, decL l = some xs ∧ e = .returned (.tuple #[.string (strOfNums xs), .int .i64 0])) ∨ (decL l = none ∧ e = .returned (.tuple #[.string ⟨#[]⟩, .int .i64 12]))) := by
  obtain ⟨i0, hi, hz0, hz1, hz2⟩ := info_parts Tryz.info5
  obtain ⟨ao, cap, rfl, hc, hm, hy, hl⟩ := id hv
  go_enter Tryz.func111, Tryz.ntmps111
  go_wp2_with (at_make; refine wpList_make_own _ rfl _ _ 22 rfl w.heap.size 5 i0 (.int .u8 0) 1 Tryz.underlying22 hi hz0 hz1 _ _ _ l.length rfl rfl (by omega) (by rw [hz2]; omega) (by unfold maxLen; omega) (Nat.le_refl _) ?_; intro w2 hown hgrow)
  have hb2 : Below w.heap.size w w2 := (Below.refl _ _).grown hgrow (Nat.le_refl _) (fun k h => by cases h)
  clear hgrow hz0 hz1 hi hc hm hl
  go_loopw [0, 4] (fun b s wr => ∃ (l' : List Int) (fuel : Nat) (acc : List Int), View w b l' ∧ wr.ownsRow w.heap.size 5 1 s acc.length (bcells acc) ∧ Below w.heap.size w wr ∧ (decFrom fuel l').map (acc ++ ·) = decL l ∧ l'.length ≤ fuel ∧ AllBytes acc ∧ acc.length + 4 * l'.length ≤ 4 * l.length) (fun b _ _ => lenOf b)
  case atStart =>
    refine ⟨l, l.length, [], hv, hown, hb2, ?_, Nat.le_refl _, fun x hx => by simp at hx, by simp⟩
    show _ = decFrom l.length l
    cases decFrom l.length l <;> simp
  case round =>
    obtain ⟨l', fuel, acc, hvr, hI, hbw, hacc, hfu, hab, hal⟩ := hrel
    have hsz := hbw.size
    have hvw : View wr u0 l' := hvr.below hbw
    match l', hvr, hvw, hacc, hfu, hal with
    | [], hvr, hvw, hacc, hfu, hal =>
      obtain ⟨ao', cap', rfl, hc', hm', hy', hl'⟩ := hvr
      have hcv := run_string (View.of_own hI hab)
      rw [List.length_nil] at *
      have HA : Hid ((decFrom fuel []).map (acc ++ ·) = decL l) := hacc
      clear hacc hvw
      go_wp2
      go_ret2
      refine ⟨hbw, .inl ⟨acc, ?_, rfl⟩⟩
      rw [← HA.out]; cases fuel <;> simp [decFrom]
    | x :: t, hvr, hvw, hacc, hfu, hal =>
      obtain ⟨f, rfl⟩ : ∃ f, fuel = f + 1 := ⟨fuel - 1, by simp at hfu; omega⟩
      have hfr := fr_any u0 (x :: t) wr hvw
      have hby : AllBytes (x :: t) := by obtain ⟨_, _, _, _, _, h, _⟩ := hvr; exact h
      have hrg := frune_range (x :: t) hby
      have HA : Hid ((if (frune (x :: t)).2 = 0 then none else (decFrom f ((x :: t).drop (frune (x :: t)).2)).map (Lib.encodeRuneZ (frune (x :: t)).1 ++ ·)).map (acc ++ ·) = decL l) := hacc
      clear hacc hvw
      obtain ⟨ao', cap', rfl, hc', hm', hy', hl'⟩ := hvr
      obtain ⟨g, off, rfl, hl2⟩ : ∃ g off, ao' = some ⟨g, off, none⟩ ∧ Lies w g off (x :: t) := by
        rcases hl' with e | h
        · simp at e
        · exact h
      clear hl'
      have hpos : 0 < (x :: t).length := by simp
      generalize x :: t = L at *
      generalize frune L = rk at *
      obtain ⟨r, k⟩ := rk
      simp only at hfr hrg HA
      obtain ⟨hk, hr0, hr1, hk6⟩ := hrg
      generalize hn : L.length = n at *
      have HF := hidIt hfr
      clear hfr
      have hnpos : (0 : Int) < (n : Int) := by omega
      by_cases hk0 : k = 0
      · subst hk0
        clear hl2 hy'
        go_wp2_with fail
        refine HF.out.mono ?_
        rintro e w' ⟨rfl, q, rfl⟩
        go_wp2
        go_ret2
        refine ⟨⟨hbw.os, hbw.tape, hbw.output, hbw.size, hbw.block⟩, .inr ⟨?_, rfl⟩⟩
        rw [← HA.out]; simp
      · have hkb : ((k : Int) == 0) = false := by simp; omega
        have hkn : (k : Int) ≤ (n : Int) := by omega
        have HV : ∀ ao2, (n = k ∨ ao2 = some ⟨g, off + k, none⟩) → View w (.slice ao2 (n - k) (cap' - k)) (L.drop k) := by
          intro ao2 hao
          refine ⟨ao2, cap' - k, by simp [hn], by simp [hn]; omega, by omega, fun x hx => hy' x (List.mem_of_mem_drop hx), ?_⟩
          rcases hao with h | h
          · left; exact List.drop_eq_nil_of_le (by omega)
          · right
            refine ⟨g, off + k, h, fun j x hj => ?_⟩
            rw [List.getElem?_drop] at hj
            rw [Nat.add_assoc]; exact hl2 _ _ hj
        have HV' := hidIt HV
        clear HV hl2
        have hel := Lib.encodeRuneZ_length r
        have hrl : (Lib.runeCells r).length = (Lib.encodeRuneZ r).length := by simp [Lib.runeCells]
        have HR := hidIt hrl
        clear hrl
        go_wp2_with fail
        refine HF.out.mono ?_
        rintro e w' ⟨rfl, q, rfl⟩
        go_wp2_with fail
        refine (Tryz.utf8_AppendRune_plain w.heap.size _ _ _ r (by omega) (by omega) _ (by exact hI) (by omega) (by exact hsz)).mono ?_
        rintro e w3 ⟨v3, rfl, hI3, o3, hg3⟩
        go_wp2
        have hb3 : Below w.heap.size w w3 := by
          have h1 : Below w.heap.size w (wr.drewN q) := ⟨hbw.os, hbw.tape, hbw.output, hbw.size, hbw.block⟩
          exact (h1.alloc (by exact hsz) o3).grown hg3 (by simp; omega) (fun k h => (hI.lt k h).1)
        refine ⟨⟨L.drop k, f, acc ++ Lib.encodeRuneZ r, ?_, ?_, hb3, ?_, ?_, ?_, ?_⟩, ?_⟩
        · by_cases hck : cap' = k
          · rw [if_pos hck]; exact HV'.out _ (.inl (by omega))
          · rw [if_neg hck]; exact HV'.out _ (.inr rfl)
        · rw [List.length_append, ← HR.out, bcells_append]; exact hI3
        · rw [← HA.out, if_neg hk0]
          cases decFrom f (L.drop k) <;> simp
        · rw [List.length_drop, hn]; omega
        · intro x hx
          rcases List.mem_append.1 hx with h | h
          · exact hab x h
          · have := Lib.encodeRuneZ_byte r x h; omega
        · rw [List.length_append, List.length_drop, hn]; omega
        · simp only [lenOf]; omega
end Go.Proofs.YthagaldpopnoeaaGreatDoor
