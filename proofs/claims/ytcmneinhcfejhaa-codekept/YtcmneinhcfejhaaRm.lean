/- The book's Roomy, Same, Intact. -/
import Derived.Test.YtcmneinhcfejhaaG
import Derived.Lib.SlBuf
import Derived.Deep.QuietTactic
import Derived.BigQuiet
namespace Go.Proofs.Ytcmneinhcfejhaa
open Go.RowKit

def b8 (l : List Int) : List UInt8 := l.map fun n => UInt8.ofNat n.toNat
theorem b8_len (l : List Int) : (b8 l).length = l.length := by simp [b8]
theorem b8_at {l : List Int} (hb : AllBytes l) {j : Nat} {x : UInt8} (h : (b8 l)[j]? = some x) : l[j]? = some (x.toNat : Int) := by
  unfold b8 at h
  rw [List.getElem?_map] at h
  obtain ⟨y, hy, rfl⟩ := Option.map_eq_some_iff.1 h
  have := hb y (List.mem_of_getElem? hy)
  rw [hy]
  have e : (UInt8.ofNat y.toNat).toNat = y.toNat := by simp; omega
  rw [e]
  congr 1
  omega
theorem b8_of {l : List Int} (hb : AllBytes l) {j : Nat} {x : Int} (h : l[j]? = some x) : ∃ u : UInt8, (b8 l)[j]? = some u ∧ (u.toNat : Int) = x := by
  have := hb x (List.mem_of_getElem? h)
  refine ⟨UInt8.ofNat x.toNat, by unfold b8; rw [List.getElem?_map, h]; rfl, ?_⟩
  have e : (UInt8.ofNat x.toNat).toNat = x.toNat := by simp; omega
  rw [e]; omega

theorem View.holds {w : World} {v : Value} {l : List Int} (h : View w v l) : Lib.HoldsBytes w v (b8 l) := by
  obtain ⟨ao, cap, rfl, hc, hm, hby, hl⟩ := h
  refine ⟨ao, cap, by rw [b8_len], fun e => ?_, fun a ha i x hx => ?_⟩
  · rcases hl with hl | ⟨g, off, hl, _⟩
    · rw [hl]; rfl
    · rw [e] at hl; cases hl
  · have hx' := b8_at hby hx
    rcases hl with hl | ⟨g, off, hl, hl2⟩
    · rw [hl] at hx'; simp at hx'
    · rw [ha] at hl; cases hl
      have e : (⟨g, off, none⟩ : Addr).add i = ⟨g, off + i, none⟩ := by unfold Addr.add; split <;> simp_all
      rw [e]
      exact hl2 i _ hx'

theorem Lib.Buf.push {w0 wr : World} {h N : Nat} {acc : List UInt8} (hb : Lib.Buf w0 wr h N acc) (hi : acc.length < N) (x : UInt8) : Lib.Buf w0 (wr.setCell ⟨h, acc.length, none⟩ (.int .u8 (x.toNat : Int))) h N (acc ++ [x]) := by
  have hin := World.cell?_setCells_in h [Value.int .u8 (x.toNat : Int)] acc.length wr (fun j hj => by simp at hj; subst hj; exact hb.there _ (by omega))
  have hout := World.cell?_setCells_out h [Value.int .u8 (x.toNat : Int)] acc.length wr
  have hfz : ∀ a, (wr.setCells h acc.length [Value.int .u8 (x.toNat : Int)]).frozen? a = wr.frozen? a := fun a => World.frozen?_setCells ..
  have e : wr.setCells h acc.length [Value.int .u8 (x.toNat : Int)] = wr.setCell ⟨h, acc.length, none⟩ (.int .u8 (x.toNat : Int)) := rfl
  rw [e] at hin hout hfz
  refine ⟨hb.below.setCell (p := ⟨h, acc.length, none⟩) (Nat.le_refl _) _, ?_, ?_, ?_, by simp; omega⟩
  · intro j hj
    by_cases h1 : j = acc.length
    · subst h1
      have := hin 0 (by simp)
      rw [Nat.add_zero] at this
      rw [this]; rfl
    · rw [hout ⟨h, j, none⟩ (fun _ _ => by show j < _ ∨ _ ≤ j; simp; omega)]
      exact hb.there j hj
  · intro j hj
    rw [hfz]
    exact hb.free j hj
  · intro j y hy
    by_cases h1 : j < acc.length
    · rw [List.getElem?_append_left h1] at hy
      rw [hout ⟨h, j, none⟩ (fun _ _ => Or.inl h1)]
      exact hb.holds j y hy
    · rw [List.getElem?_append_right (by omega)] at hy
      have hj : j = acc.length := by
        have := (List.getElem?_eq_some_iff.1 hy).1
        simp at this; omega
      subst hj
      simp at hy
      subst hy
      have := hin 0 (by simp)
      rw [Nat.add_zero] at this
      rw [this]; rfl

/-- What Roomy makes of the bytes l. -/
def roomy (l : List Int) : List Int := l ++ List.replicate 80 165
theorem roomy_len (l : List Int) : (roomy l).length = l.length + 80 := by simp [roomy]

theorem make_bytes (n : Nat) (hn : n ≤ 140737488355328) : ∃ cs : Array Value, cs.size = n ∧ ∀ wx : World, (Instr.makeSlice 29 (.int .i64 (n : Int)) (.int .i64 (n : Int))).run Try.prog wx = .ok (.slice (some ⟨wx.heap.size, 0, none⟩) n n) (wx.alloc (.cells cs 5)) := by
  obtain ⟨i0, hi, hz0, hz1, hz2⟩ := info_parts Try.info5
  refine ⟨_, size_madeCells (Value.int .u8 0).cells (n * 1) |>.trans (by omega), fun wx => ?_⟩
  have := run_make (P := Try.prog) wx 29 5 i0 (.int .u8 0) Try.underlying29 hi hz0 .i64 .i64 n n (by omega) (Int.le_refl _) (by rw [hz2]; omega) (by omega)
  rw [hz1] at this
  simpa only [Int.toNat_natCast] using this

theorem lies_of_buf {w0 wr : World} {h N : Nat} {l : List Int} (hby : AllBytes l) (hb : Lib.Buf w0 wr h N (b8 l)) : Lies wr h 0 l := by
  intro j x hj
  obtain ⟨u, hu, rfl⟩ := b8_of hby hj
  rw [Nat.zero_add]
  exact hb.holds j u hu

theorem roomy_bytes {l : List Int} (h : AllBytes l) : AllBytes (roomy l) := by
  intro x hx
  rcases List.mem_append.1 hx with hx | hx
  · exact h x hx
  · have := List.eq_of_mem_replicate hx
    omega
theorem b8_roomy (l : List Int) : b8 (roomy l) = b8 l ++ List.replicate 80 165 := by
  unfold b8 roomy
  rw [List.map_append, List.map_replicate]
  rfl

set_option maxHeartbeats 2000000 in
theorem roomy_any (v : Value) (l : List Int) (w : World) (hv : View w v l) (hlen : l.length ≤ 140737488351232) :
    Calls Try.prog 21 #[v, .int .u8 165] w fun e w' => Below w.heap.size w w' ∧ e = .returned (.slice (some ⟨w.heap.size, 0, none⟩) (l.length + 80) (l.length + 80)) ∧ Lies w' w.heap.size 0 (roomy l) := by
  have hby : AllBytes l := by obtain ⟨_, _, _, _, _, h, _⟩ := hv; exact h
  have hH := hidIt hv.holds
  obtain ⟨ao, cap, rfl, hc, hm, -, -⟩ := id hv
  unfold maxLen at hm
  obtain ⟨cs, hcs, hmk⟩ := make_bytes (l.length + 80) (by omega)
  rw [show ((l.length + 80 : Nat) : Int) = (l.length : Int) + 80 by omega] at hmk
  have B0 : Lib.Buf w (w.alloc (.cells cs 5)) w.heap.size (l.length + 80) [] := Lib.Buf.start w cs 5 (l.length + 80) 0 (by omega)
  obtain ⟨w1, hcp, B1⟩ := Lib.copy_part (P := Try.prog) w _ w.heap.size (l.length + 80) [] (b8 l) _ 29 3 5 Try.underlying29 (by kernel_rfl) (Nat.le_refl _) B0 hH.out (by rw [b8_len]; simp)
  rw [show ([] : List UInt8).length = 0 from rfl, Lib.tailV_zero, b8_len] at hcp
  rw [List.nil_append] at B1
  clear B0 hH hv
  go_enter Try.func21, Try.ntmps21
  go_wp2
  go_loopw [6] (fun i wr => ∃ k : Nat, k ≤ 80 ∧ i = .int .i64 ((l.length + k : Nat) : Int) ∧ Lib.Buf w wr w.heap.size (l.length + 80) (b8 l ++ List.replicate k 165)) (fun i _ => l.length + 80 - (intOf i).toNat)
  case atStart => exact ⟨0, by omega, by simp, by simpa using B1⟩
  case round =>
    obtain ⟨k, hk, rfl, hB⟩ := hrel
    by_cases hlt : k < 80
    · have hal : (b8 l ++ List.replicate k (165 : UInt8)).length = l.length + k := by rw [List.length_append, b8_len, List.length_replicate]
      have HP := hidIt (Lib.Buf.push hB (by omega) 165)
      rw [hal, List.append_assoc, ← List.replicate_succ'] at HP
      obtain ⟨u, hu⟩ := Option.isSome_iff_exists.1 (hB.there (l.length + k) (by omega))
      have hfz := hB.free (l.length + k) (by omega)
      clear hB
      have h1 : ((l.length + k : Nat) : Int) < (l.length : Int) + 80 := by omega
      go_wp2
      exact ⟨⟨k + 1, by omega, by go_num, HP.out⟩, by simp [intOf]; omega⟩
    · have hk' : k = 80 := by omega
      subst hk'
      go_wp2
      go_ret
      rw [← b8_roomy] at hB
      exact ⟨hB.below, rfl, lies_of_buf (roomy_bytes hby) hB⟩

set_option maxHeartbeats 2000000 in
theorem bsame_any (va vb : Value) (l : List Int) (w : World) (ha : View w va l) (hb : View w vb l) :
    Calls Try.prog 36 #[va, vb] w fun e w' => e = .returned (.bool true) ∧ ∃ q, w' = w.drewN q := by
  obtain ⟨aoa, capa, rfl, hca, hma, hby, hla⟩ := ha
  obtain ⟨aob, capb, rfl, hcb, hmb, -, hlb⟩ := hb
  unfold maxLen at hma hmb
  go_enter Try.func36, Try.ntmps36
  go_wp2
  go_loopw [5] (fun i wr => ∃ k q : Nat, k ≤ l.length ∧ i = .int .i64 (k : Int) ∧ wr = w.drewN q) (fun i _ => l.length - (intOf i).toNat)
  case atStart => exact ⟨0, 0, by omega, rfl, rfl⟩
  case round =>
    obtain ⟨k, q, hk, rfl, rfl⟩ := hrel
    by_cases hlt : k < l.length
    · obtain ⟨g, off, rfl, hla2⟩ : ∃ g off, aoa = some ⟨g, off, none⟩ ∧ Lies w g off l := by
        rcases hla with e | h
        · rw [e] at hlt; simp at hlt
        · exact h
      obtain ⟨g2, off2, rfl, hlb2⟩ : ∃ g off, aob = some ⟨g, off, none⟩ ∧ Lies w g off l := by
        rcases hlb with e | h
        · rw [e] at hlt; simp at hlt
        · exact h
      have ca := hla2 k l[k] (by simp [hlt])
      have cb := hlb2 k l[k] (by simp [hlt])
      clear hla hlb hla2 hlb2
      have h1 : (k : Int) < (l.length : Int) := by omega
      generalize l[k] = x at *
      go_wp2
      go_quiet (fail)
      go_wp2
      exact ⟨⟨k + 1, _, by omega, by go_num, rfl⟩, by simp [intOf]; omega⟩
    · have h1 : ¬ (k : Int) < (l.length : Int) := by omega
      go_wp2
      go_ret
      exact ⟨rfl, q, rfl⟩

theorem view_front {w : World} {g : Nat} {l : List Int} (hby : AllBytes l) (hm : l.length + 80 ≤ maxLen) (h : Lies w g 0 (roomy l)) : View w (.slice (some ⟨g, 0, none⟩) l.length (l.length + 80)) l := by
  refine ⟨_, _, rfl, by omega, hm, hby, .inr ⟨g, 0, rfl, fun j x hj => h j x ?_⟩⟩
  unfold roomy
  rw [List.getElem?_append_left (List.getElem?_eq_some_iff.1 hj).1]
  exact hj
theorem roomy_tail {l : List Int} {k : Nat} (h1 : l.length ≤ k) (h2 : k < l.length + 80) : (roomy l)[k]? = some 165 := by
  unfold roomy
  rw [List.getElem?_append_right h1, List.getElem?_replicate, if_pos (by omega)]

set_option maxHeartbeats 2000000 in
theorem intact_any (g : Nat) (vb : Value) (l : List Int) (w : World) (ha : Lies w g 0 (roomy l)) (hb : View w vb l) (hlen : l.length ≤ 140737488351232) :
    Calls Try.prog 24 #[.slice (some ⟨g, 0, none⟩) (l.length + 80) (l.length + 80), vb, .int .u8 165] w fun e w' => e = .returned (.bool true) ∧ ∃ q, w' = w.drewN q := by
  have hby : AllBytes l := by obtain ⟨_, _, _, _, _, h, _⟩ := hb; exact h
  have HS : Hid (∀ q, Calls Try.prog 36 #[.slice (some ⟨g, 0, none⟩) l.length (l.length + 80), vb] (w.drewN q) fun e w' => e = .returned (.bool true) ∧ ∃ q', w' = (w.drewN q).drewN q') :=
    fun q => bsame_any _ vb l (w.drewN q) (view_front (w := w.drewN q) hby (by unfold maxLen; omega) ha) hb
  obtain ⟨aob, capb, rfl, hcb, hmb, -, hlb⟩ := id hb
  unfold maxLen at hmb
  go_enter Try.func24, Try.ntmps24
  go_wp2_with fail
  refine (HS.out 0).mono ?_
  rintro e w' ⟨rfl, q0, rfl⟩
  clear HS
  go_wp2
  go_loopw [7] (fun i wr => ∃ k q : Nat, k ≤ 80 ∧ i = .int .i64 ((l.length + k : Nat) : Int) ∧ wr = w.drewN q) (fun i _ => l.length + 80 - (intOf i).toNat)
  case atStart => exact ⟨0, _, by omega, rfl, rfl⟩
  case round =>
    obtain ⟨k, q, hk, rfl, rfl⟩ := hrel
    by_cases hlt : k < 80
    · have ca := ha (l.length + k) 165 (roomy_tail (by omega) (by omega))
      rw [Nat.zero_add] at ca
      clear ha hlb hb
      have h1 : ((l.length + k : Nat) : Int) < (l.length : Int) + 80 := by omega
      go_wp2
      exact ⟨⟨k + 1, q, by omega, by go_num, rfl⟩, by simp [intOf]; omega⟩
    · have hk' : k = 80 := by omega
      subst hk'
      go_wp2
      go_ret
      exact ⟨rfl, q, rfl⟩
end Go.Proofs.Ytcmneinhcfejhaa
