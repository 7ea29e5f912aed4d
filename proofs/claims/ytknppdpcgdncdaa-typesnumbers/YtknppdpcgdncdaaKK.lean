/- known. -/
import Derived.Test.YtknppdpcgdncdaaKY
import Derived.Test.YtknppdpcgdncdaaKZ
import Derived.Test.YtknppdpcgdncdaaKSm
import Derived.Test.YtknppdpcgdncdaaKN
namespace Go.Proofs.Ytknppdpcgdncdaa.K
open Go.RowKit Q Q.D

theorem texts_flat (l : List ByteArray) : l.map Value.string = flatR (fun j => [.string (l.getD j ⟨#[]⟩)]) l.length := by
  refine List.ext_getElem? (fun y => ?_)
  have hk : ∀ j, j < l.length → ((fun j => [Value.string (l.getD j ⟨#[]⟩)]) j).length = 1 := fun j _ => rfl
  by_cases hy : y < l.length
  · have := flatR_at hk y hy 0 (by omega)
    rw [Nat.mul_one, Nat.add_zero] at this
    rw [this, List.getD_eq_getElem?_getD]
    simp [hy]
  · rw [List.getElem?_eq_none (by simp; omega), List.getElem?_eq_none (by rw [flatR_len hk]; omega)]
theorem own_texts {w : World} {B : Nat} {v : Value} {l : List ByteArray} (h : w.ownsRow B 9 1 v l.length (l.map Value.string)) (hs : ∀ s ∈ l, s.size ≤ 9223372036854775807) : ∃ ao c, v = .slice ao l.length c ∧ LAt 1 TextR w ao c l := by
  rw [texts_flat] at h
  obtain ⟨ao, c, rfl, l1, l2, hr⟩ := own_rows h (fun _ _ => rfl)
  refine ⟨ao, c, rfl, l1, l2, fun j => [.string (l.getD j ⟨#[]⟩)], RowsAt.ext hr (seen_ext _ _), fun i x hx => ⟨?_, hs x (List.mem_of_getElem? hx)⟩⟩
  simp only [List.getD_eq_getElem?_getD, hx]; rfl
theorem KStep.below {n0 : Nat} {W W' : World} {pk mb : Nat} {v : Value} {R : List Mem} (h : KinO n0 W pk mb v R) (st : KStep pk mb v W W') : Below n0 W W' :=
  ⟨st.os, st.tape, st.output, st.size, fun b hb => st.block b (by have := h.hpk; have := h.box.lt; omega) (by have := h.hpk; omega) (by have := h.hmb; omega) (fun e => by have := (h.own.lt b e).1; omega)⟩
theorem small_of_k {R : List Mem} {l : List KD} (h : R.map Mem.k = l) (hs : ∀ k ∈ l, KSm k) : ∀ m ∈ R, KSm m.k := fun m hm => hs _ (by rw [← h]; exact List.mem_map_of_mem hm)
theorem plain_small (n s : ByteArray) : KSm (plainK n s) := ⟨by simp [plainK], by simp [plainK], by simp [plainK], fun m hm => by simp [plainK] at hm⟩

set_option maxRecDepth 8000 in
set_option maxHeartbeats 4000000 in
theorem known_any (w : World) : Calls Try.prog 16 #[] w fun e w' => e = .returned (.bool true) ∧ Below w.heap.size w w' := by
  go_enter Try.func16, Try.ntmps16
  go_wp2_with fail
  refine (new_any w).mono ?_
  rintro e w1 ⟨pk, mb, v, R, rfl, KO, hR, B1⟩
  have hR' : R.map Mem.k = givenK.reverse := by rw [← hR, List.map_reverse, List.reverse_reverse]
  have hR0 : refZ R (plainK Alpha ⟨#[66]⟩) = 22 := by rw [refZ_k, hR']; exact k_known1
  have hR1 : refZ R (plainK Alpha ⟨#[84, 104, 114, 101, 97, 100]⟩) = 0 := by rw [refZ_k, hR']; exact k_known2
  have A1 := D.hidIt (add_any _ w1 pk mb v R KO (plainK Alpha ⟨#[66]⟩) _ (plain_class Alpha ⟨#[66]⟩ w1 (by decide) (by decide)))
  unfold AddIs at A1
  rw [hR0] at A1
  clear hR0 hR
  go_wp2_with fail
  refine A1.out.mono ?_
  rintro e w2 ⟨rfl, b2⟩
  rw [if_neg (by omega)] at b2
  clear A1
  have KO2 := KO.below b2
  have A2 := D.hidIt (add_any _ w2 pk mb v R KO2 (plainK Alpha ⟨#[84, 104, 114, 101, 97, 100]⟩) _ (plain_class Alpha ⟨#[84, 104, 114, 101, 97, 100]⟩ w2 (by decide) (by decide)))
  unfold AddIs at A2
  rw [hR1] at A2
  clear hR1
  go_wp2_with fail
  refine A2.out.mono ?_
  rintro e w3 ⟨rfl, hA⟩
  simp only [if_true] at hA
  obtain ⟨v3, bb, KO3, st3⟩ := hA
  clear A2
  have B3 : Below w.heap.size w w3 := (next B1 b2).trans (KStep.below KO2 st3)
  obtain ⟨ao, c, hv3, V3⟩ := KO3.view
  clear hv3
  have hR3 : (⟨plainK Alpha ⟨#[84, 104, 114, 101, 97, 100]⟩, bb⟩ :: R : List Mem).map Mem.k = plainK Alpha ⟨#[84, 104, 114, 101, 97, 100]⟩ :: givenK.reverse := by rw [List.map_cons, hR']
  have hsm : ∀ m ∈ (⟨plainK Alpha ⟨#[84, 104, 114, 101, 97, 100]⟩, bb⟩ :: R : List Mem), KSm m.k := small_of_k hR3 (fun k hk => by
    rcases List.mem_cons.1 hk with rfl | h
    · exact plain_small _ _
    · exact given_small k (by simpa using h))
  have hlenR : R.length = 13 := by have := congrArg List.length hR'; rw [List.length_map] at this; exact this
  have M3 := D.hidIt (meth_find w3 pk _ mb ao c V3 hsm Alpha ⟨#[115, 116, 97, 114, 116]⟩ ⟨#[40, 41, 86]⟩)
  generalize hRR : (⟨plainK Alpha ⟨#[84, 104, 114, 101, 97, 100]⟩, bb⟩ :: R : List Mem) = RR at *
  have hlen3 : RR.length ≤ 1000000 := by rw [← hRR]; simp; omega
  clear hlenR hRR
  go_wp2_with fail
  refine M3.out.mono ?_
  rintro e w4 ⟨b4, hM⟩
  have hM' := meth_k hM
  rw [hR3, k_known4] at hM'
  obtain ⟨y, row', hy, rfl, hrow⟩ := hM'
  rw [k_known5] at hy
  cases hy
  obtain ⟨q1, p1, q2, p2, q3, p3, rfl, -⟩ := hrow
  clear hM M3
  have V4 := V3.below b4
  have B4 := B3.trans (b4.mono B3.size)
  simp only [natM, threadK, List.length_nil]
  go_wp2_with fail
  have b5 := balloc w4 (.cells #[.string ⟨#[115, 116, 97, 114, 116]⟩, .string ⟨#[40, 41, 86]⟩, .bool false, .bool true, .int .i64 0, .int .i64 0, .slice q1 0 p1, .slice q2 0 p2, .slice q3 0 p3] 41)
  have F5 := Blk.new w4 #[.string ⟨#[115, 116, 97, 114, 116]⟩, .string ⟨#[40, 41, 86]⟩, .bool false, .bool true, .int .i64 0, .int .i64 0, .slice q1 0 p1, .slice q2 0 p2, .slice q3 0 p3] 41
  generalize w4.alloc (.cells #[.string ⟨#[115, 116, 97, 114, 116]⟩, .string ⟨#[40, 41, 86]⟩, .bool false, .bool true, .int .i64 0, .int .i64 0, .slice q1 0 p1, .slice q2 0 p2, .slice q3 0 p3] 41) = W5 at *
  have V5 := V4.below b5
  have L5 := D.hidIt (kline_any W5 pk RR mb ao c V5 hlen3 ⟨#[73, 110, 100, 101, 120]⟩)
  refine L5.out.mono ?_
  rintro e w6 ⟨v6, rfl, ho6, b6⟩
  have hl : (lin RR ⟨#[73, 110, 100, 101, 120]⟩).map Mem.k = [plainK ⟨#[73, 110, 100, 101, 120]⟩ throwableN, plainK throwableN objectN, objectK] := by rw [lin_k, hR3]; exact k_known3
  have hl1 : (lin RR ⟨#[73, 110, 100, 101, 120]⟩).length = 3 := by have := congrArg List.length hl; rw [List.length_map] at this; exact this
  have hl2 : nmCells (lin RR ⟨#[73, 110, 100, 101, 120]⟩) = [⟨#[73, 110, 100, 101, 120]⟩, throwableN, objectN].map Value.string := by
    have : nmCells (lin RR ⟨#[73, 110, 100, 101, 120]⟩) = ((lin RR ⟨#[73, 110, 100, 101, 120]⟩).map Mem.k).map (fun k => .string k.nm) := by simp [nmCells]
    rw [this, hl]; rfl
  rw [hl1, hl2] at ho6
  have hsz : ∀ s ∈ [(⟨#[73, 110, 100, 101, 120]⟩ : ByteArray), throwableN, objectN], s.size ≤ 9223372036854775807 := by decide
  obtain ⟨a6, p6, rfl, T6⟩ := own_texts (l := [⟨#[73, 110, 100, 101, 120]⟩, throwableN, objectN]) ho6 hsz
  clear ho6 hl hl1 hl2 L5
  have b7 := balloc w6 (.cells #[.string ⟨#[73, 110, 100, 101, 120]⟩, .string throwableN, .string objectN] 9)
  have ho7 := World.ownsRow_lit (e := 9) (size := 1) (base := w6.heap.size) w6 #[.string ⟨#[73, 110, 100, 101, 120]⟩, .string throwableN, .string objectN] 3 (Nat.le_refl _) (by unfold maxLen; omega) rfl
  obtain ⟨a7, p7, e7, T7⟩ := own_texts (l := [⟨#[73, 110, 100, 101, 120]⟩, throwableN, objectN]) ho7 hsz
  cases e7
  have S7 := D.hidIt (same_any a6 p6 (some ⟨w6.heap.size, 0, none⟩) 3 _ _ (T6.below b7 (fun _ _ h => h)) T7)
  unfold throwableN objectN at S7 b7
  have F7 := ((F5.below b6).below b7)
  simp only [List.length_cons, List.length_nil, Nat.zero_add, Nat.reduceAdd] at S7 ⊢
  go_wp2_with fail
  generalize w6.alloc (.cells #[.string ⟨#[73, 110, 100, 101, 120]⟩, .string ⟨#[84, 104, 114, 111, 119, 97, 98, 108, 101]⟩, .string ⟨#[79, 98, 106, 101, 99, 116]⟩] 9) = W7 at *
  refine S7.out.mono ?_
  rintro e w8 ⟨rfl, b8⟩
  have hn := (F7.below b8).cell 3
  simp at hn
  go_wp2
  go_ret
  exact ⟨rfl, B4.trans ((next b5 (next b6 (next b7 b8))).mono B4.size)⟩
end Go.Proofs.Ytknppdpcgdncdaa.K
