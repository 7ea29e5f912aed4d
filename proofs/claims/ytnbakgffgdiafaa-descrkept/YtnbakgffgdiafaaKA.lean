/- The book: Stays, the marks. -/
import Derived.Test.YtnbakgffgdiafaaKB
namespace Go.Proofs.Ytnbakgffgdiafaa
open Go.RowKit

set_option maxHeartbeats 2000000 in
theorem stays_any (B pb : Nat) (L W : Value) (held : Int) (its : List It) (w : World) (h : IsBk B pb w L W held its) (hlen : its.length ≤ 2000) :
    Calls Try.prog 34 #[.pointer (some ⟨pb, 0, none⟩)] w fun e w' => e = .returned (.bool true) ∧ Kp B pb w w' ∧ IsBk B pb w' L W held its := by
  obtain ⟨aoL, capL, eL, hcL, hmL⟩ := h.sl.form
  obtain ⟨aoW, capW, eW, hcW, hmW⟩ := h.sw.form
  rw [List.length_map] at eL eW hcL hcW
  subst eL eW
  go_enter Try.func34, Try.ntmps34
  go_wp2_with fail
  go_loopw [3] (fun i wr => ∃ k : Nat, k ≤ its.length ∧ i = .int .i64 (k : Int) ∧ IsBk B pb wr (.slice aoL its.length capL) (.slice aoW its.length capW) held its ∧ Kp B pb w wr) (fun i _ => its.length - (intOf i).toNat)
  case atStart => exact ⟨0, Nat.zero_le _, rfl, h, Kp.refl _ _ _⟩
  case round =>
    clear h
    obtain ⟨k, hk, rfl, HB, HK⟩ := hrel
    have d0 := kc0 HB.blk
    have d1 := kc1 HB.blk
    have d3 := kc3 HB.blk
    have f3 := frozen_row HB.blk 3
    by_cases hlt : k < its.length
    · have hk' : (k : Int) < (its.length : Int) := by omega
      have hk0 : (0 : Int) ≤ (k : Int) := by omega
      obtain ⟨gL, oL, rfl, cL⟩ := HB.sl.cell (j := k) (u := its[k].l) (by simp [hlt])
      obtain ⟨gW, oW, rfl, cW⟩ := HB.sw.cell (j := k) (u := its[k].c) (by simp [hlt])
      have Fp := HB.fine its[k] (by simp)
      generalize its[k] = p at *
      obtain ⟨aop, capp, epl⟩ := own_slice Fp.l
      obtain ⟨aoc', capc', epc⟩ := own_slice Fp.c
      have HSame' : Hid (Calls Try.prog 20 #[.slice aop p.m.length capp, .slice aoc' p.m.length capc'] wr.drew fun e w' => e = .returned (.bool true) ∧ ∃ q, w' = wr.drew.drewN q) := by
        have := same_any p.l p.c (p.m.map str) wr.drew (VO Fp.l Fp.b) (VO Fp.c Fp.b)
        rwa [epl, epc] at this
      rw [epl] at cL
      rw [epc] at cW
      have HB3 : ∀ q6, IsBk B pb ((wr.drewN q6).setCell ⟨pb, 3, none⟩ (.bool false)) (.slice (some ⟨gL, oL, none⟩) its.length capL) (.slice (some ⟨gW, oW, none⟩) its.length capW) held its := fun q6 =>
        have hB' := HB.drew (q := q6)
        ⟨kset3 hB'.blk, hB'.sl.store hB'.blk, hB'.sw.store hB'.blk, hB'.ne, fun p hp => (hB'.fine p hp).kp (Kp.setCell B pb _ 3 _) hB'.no5, hB'.away⟩
      have HK3 : ∀ q6, Kp B pb w ((wr.drewN q6).setCell ⟨pb, 3, none⟩ (.bool false)) := fun q6 => HK.trans ((Kp.drewN B pb wr q6).trans (Kp.setCell B pb _ 3 _))
      have hne1 : gL ≠ pb := by
        obtain ⟨-, cur, hc⟩ := HB.sl.lt gL rfl
        exact other_block hc HB.blk (by decide)
      have hne2 : gW ≠ pb := by
        obtain ⟨-, cur, hc⟩ := HB.sw.lt gW rfl
        exact other_block hc HB.blk (by decide)
      have mkS : Hid (∀ q6, ((wr.drewN q6).setCell ⟨pb, 3, none⟩ (.bool false)).cell? ⟨pb, 0, none⟩ = some (.slice (some ⟨gL, oL, none⟩) its.length capL) ∧ ((wr.drewN q6).setCell ⟨pb, 3, none⟩ (.bool false)).cell? ⟨pb, 1, none⟩ = some (.slice (some ⟨gW, oW, none⟩) its.length capW) ∧ ((wr.drewN q6).setCell ⟨pb, 3, none⟩ (.bool false)).cell? ⟨pb, 3, none⟩ = some (.bool false) ∧ ((wr.drewN q6).setCell ⟨pb, 3, none⟩ (.bool false)).cell? ⟨gL, oL + k, none⟩ = some (.slice aop p.m.length capp) ∧ ((wr.drewN q6).setCell ⟨pb, 3, none⟩ (.bool false)).cell? ⟨gW, oW + k, none⟩ = some (.slice aoc' p.m.length capc')) := by
        intro q6
        refine ⟨kc0 (HB3 q6).blk, kc1 (HB3 q6).blk, kc3 (HB3 q6).blk, ?_, ?_⟩
        · rw [World.cell?_of_block (a := ⟨gL, oL + k, none⟩) (w := wr.drewN q6) (Below.heap_setCell _ _ _ _ hne1)]
          exact cL
        · rw [World.cell?_of_block (a := ⟨gW, oW + k, none⟩) (w := wr.drewN q6) (Below.heap_setCell _ _ _ _ hne2)]
          exact cW
      have HH3 := hidIt HB3
      have HI3 := hidIt HK3
      clear HB3 HK3 HB HK
      go_wp2_with fail
      go_region_held3 (fun W => W.cell? ⟨pb, 0, none⟩ = some (.slice (some ⟨gL, oL, none⟩) its.length capL) ∧ W.cell? ⟨pb, 1, none⟩ = some (.slice (some ⟨gW, oW, none⟩) its.length capW) ∧ W.cell? ⟨pb, 3, none⟩ = some (.bool false) ∧ W.cell? ⟨gL, oL + k, none⟩ = some (.slice aop p.m.length capp) ∧ W.cell? ⟨gW, oW + k, none⟩ = some (.slice aoc' p.m.length capc')) (first | exact mkS.out _ | go_keep)
        (first
          | (go_at_call 20; refine HSame'.out.mono ?_; rintro e w6 ⟨rfl, q6, rfl⟩))
      have HB4 := HH3.out (1 + q6)
      have HK4 := HI3.out (1 + q6)
      go_wp2
      exact ⟨⟨k + 1, by omega, by go_num, HB4, HK4⟩, by simp [intOf]; omega⟩
    · have hk' : ¬ (k : Int) < (its.length : Int) := by omega
      go_wp2
      go_ret
      exact ⟨rfl, HK, HB⟩

/-- The mark of list i. -/
def mnum (i : Nat) : List Int := [(i : Int) % 256, (i : Int) / 256 % 256, (i : Int) / 65536]
def mrk (i : Nat) : ByteArray := { data := #[109, 97, 114, 107, 32] } ++ strOfNums (mnum i)
/-- The block in which the mark's bytes are made. -/
def mob (i : Nat) : Obj := .cells #[.int .u8 ((i : Int) % 256), .int .u8 ((i : Int) / 256 % 256), .int .u8 ((i : Int) / 65536)] 5
theorem run_mark (i : Nat) (w : World) : (convert 49 9 (.slice (some ⟨w.heap.size, 0, none⟩) 3 3)).run Try.prog (w.alloc (mob i)) = .ok (.string (strOfNums (mnum i))) (w.alloc (mob i)) :=
  run_convert_bytes_arg (P := Try.prog) (w.alloc (mob i)) 49 5 Try.underlying49 Try.underlying5 w.heap.size 0 3 3 (mnum i) rfl (fun j hj => by
    rw [cell_of_row (w.alloc (mob i)) w.heap.size (0 + j) _ 5 (0, 0) (heap_alloc_new w _)]
    match j, hj with
    | 0, _ => rfl
    | 1, _ => rfl
    | 2, _ => rfl
    | j + 3, h => omega) 9 Try.underlying9

set_option maxHeartbeats 800000 in
theorem mark_any (i j : Nat) (w : World) (hi : i ≤ 1000000) :
    Calls Try.prog 26 #[.int .i64 (i : Int), .int .i64 (j : Int)] w fun e w' => e = .returned (.string (mrk i)) ∧ w' = w.alloc (mob i) := by
  have hr := run_mark i w
  have hz : (strOfNums (mnum i)).size ≤ 3 := by rw [Lib.size_eq]; simp [strOfNums, mnum]
  unfold mrk
  unfold mob at hr ⊢
  generalize strOfNums (mnum i) = X at *
  go_enter Try.func26, Try.ntmps26
  go_wp2
  go_ret
  exact ⟨rfl, rfl⟩
end Go.Proofs.Ytnbakgffgdiafaa
