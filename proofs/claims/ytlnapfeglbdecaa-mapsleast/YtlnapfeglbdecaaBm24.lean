/- Texts NH RD FCo. -/
import Derived.Test.YtlnapfeglbdecaaBm21
import Derived.Test.YtlnapfeglbdecaaBm02
import Derived.Test.YtlnapfeglbdecaaBm13
import Derived.Test.YtlnapfeglbdecaaBm07
import Derived.Test.YtlnapfeglbdecaaBm23
namespace Go.Proofs.Ytlnapfeglbdecaa.M
open Go.RowKit

def Hl (c : Nat) (σ : SG) : Prop := σ.hs.length + c ≤ σ.labels
theorem Hl.mark {c : Nat} {σ : SG} (h : Hl c σ) : Hl (c + 1) σ.mark := by
  show σ.hs.length + (c + 1) ≤ σ.labels + 1
  unfold Hl at h
  omega
theorem Hl.wk {c d : Nat} {σ : SG} (h : Hl c σ) (hd : d ≤ c) : Hl d σ := by
  unfold Hl at *
  omega
theorem Hl.tried {c : Nat} {σ : SG} (h : Hl (c + 1) σ) (x : TR) : Hl c (σ.tried x) := by
  show (σ.hs ++ [x]).length + c ≤ σ.labels
  rw [List.length_append]
  unfold Hl at h
  simp
  omega
mutual
theorem Num.hl {d : Nat} {pl : Bool} {σ σ' : SG} {c : Nat} : Num d pl σ σ' → Hl c σ → Hl c σ'
  | .c0 _ _, h => h
  | .c1 _ _, h => h
  | .c2 _ _, h => h
  | .bin _ _ _ h1 h2, h => (h2.hl (h1.hl h) :)
  | .neg _ h1, h => (h1.hl h :)
  | .ldc _ _ _, h => h
  | .getx _ h1, h => (h1.hl h :)
  | .iaload _ h1, h => (h1.hl (c := c) h :)
  | .calc_ _ h1 h2, h => (h2.hl (h1.hl h) :)
  | .virt _ h1 h2, h => (h2.hl (h1.hl h) :)
  | .isa _ _ _ h1, h => (h1.hl h :)
theorem Ref.hl {d : Nat} {pl : Bool} {σ σ' : SG} {c : Nat} : Ref d pl σ σ' → Hl c σ → Hl c σ'
  | .r0 _ _, h => h
  | .newA, h => h
  | .newB, h => h
  | .next _ h1, h => (h1.hl h :)
  | .stat _, h => h
  | .aaload _ h1, h => (h1.hl (c := c) h :)
  | .cast _ _ _ h1, h => (h1.hl h :)
end
theorem Arr.hl {pl : Bool} {σ σ' : SG} {c : Nat} (h : Arr pl σ σ') (g : Hl c σ) : Hl c σ' := by
  cases h with
  | a0 h1 => exact (h1.hl g :)
  | a1 k c _ _ => exact g
  | a2 h1 h2 => exact (h2.hl (h1.hl (c := c) g) :)
  | a3 k _ h1 => exact (h1.hl (c := c) g :)
theorem Thr.hl {σ σ' : SG} {c : Nat} (h : Thr σ σ') (g : Hl c σ) : Hl c σ' := by cases h <;> exact g
theorem Cond.hl {pl : Bool} {no : Int} {σ σ' : SG} {c : Nat} (h : Cond pl no σ σ') (g : Hl c σ) : Hl c σ' := by
  cases h with
  | null op _ h1 => exact (h1.hl g :)
  | same op _ h1 h2 => exact (h2.hl (h1.hl g) :)
  | one k _ h1 => exact (h1.hl g :)
  | two k _ h1 h2 => exact (h2.hl (h1.hl g) :)
mutual
theorem One.hl {e : Nat} {pl : Bool} {σ σ' : SG} {c : Nat} : One e pl σ σ' → Hl c σ → Hl c σ'
  | .set_ _ _ h1, h => (h1.hl h :)
  | .inc _ _ _ _, h => h
  | .chs _ _ h1, h => h1.hl h
  | .lp _ _ h1, h => h1.hl h
  | .dup _ _ h1, h => (h1.hl h :)
  | .prt h1, h => (h1.hl h :)
  | .ast _ _ h1, h => (h1.hl h :)
  | .ptx h1 h2, h => (h2.hl (h1.hl h) :)
  | .ptn h1 h2, h => (h2.hl (h1.hl h) :)
  | .pts h1, h => (h1.hl h :)
  | .arr h1, h => h1.hl h
  | .tr _ _ h1, h => h1.hl h
  | .lk _ h1, h => h1.hl h
  | .thr h1, h => h1.hl h
  | .nwt _ _, h => h
theorem Sm.hl {e : Nat} {pl : Bool} {σ σ' : SG} {c : Nat} : Sm e pl σ σ' → Hl c σ → Hl c σ'
  | .nil, h => h
  | .snoc h1 _ h2, h => h2.hl (h1.hl h)
theorem Chs.hl {e : Nat} {pl : Bool} {σ σ' : SG} {c : Nat} : Chs e pl σ σ' → Hl c σ → Hl c σ'
  | .mk hc h1 h2, h => (h2.hl (c := c) (h1.hl (hc.hl ((h.mark.mark).wk (by omega)))) :)
theorem Lp.hl {e : Nat} {pl : Bool} {σ σ' : SG} {c : Nat} : Lp e pl σ σ' → Hl c σ → Hl c σ'
  | .mk _ _ _ _ h1, h => (h1.hl (c := c) ((h.mark.mark).wk (by omega)) :)
theorem Tr.hl {e : Nat} {pl : Bool} {σ σ' : SG} {c : Nat} : Tr e pl σ σ' → Hl c σ → Hl c σ'
  | .t0 h1 h2, h => by
    have a := h1.hl (c := c + 1) ((h.mark.mark.mark.mark).wk (by omega))
    exact (h2.hl (c := c) (Hl.tried a _) :)
  | .t1 h1 h2, h => by
    have a := h1.hl (c := c + 1) ((h.mark.mark.mark.mark).wk (by omega))
    exact (h2.hl (c := c) (Hl.tried a _) :)
theorem Lk.hl {e : Nat} {pl : Bool} {σ σ' : SG} {c : Nat} : Lk e pl σ σ' → Hl c σ → Hl c σ'
  | .l0 _ _ h1, h => (h1.hl (c := c) h :)
  | .l1 _ _ _ _ h1, h => (h1.hl (c := c) h :)
end
theorem body_hl {k : BK} {pool : List CD} {σ : SG} (h : BodyIs k pool σ) : Hl 0 σ := by
  obtain ⟨σ1, h1, h2⟩ := h
  have h0 : Hl 0 (pre k pool) := by
    have : (pre k pool).hs = [] ∧ (pre k pool).labels = 0 := by cases k <;> exact ⟨rfl, rfl⟩
    unfold Hl
    rw [this.1]
    exact Nat.zero_le _
  have g1 := h1.hl h0
  split at h2
  · obtain ⟨σ2, h3, rfl⟩ := h2
    exact (h3.hl g1 :)
  · subst h2
    exact g1
theorem body_hands {k : BK} {pool : List CD} {σ : SG} (h : BodyIs k pool σ) (hp : pool.length ≤ 256) : (handsZ σ).length ≤ 54 := by
  have h1 := body_hl h
  have h2 := (body_made h hp).lab
  unfold Hl at h1
  unfold handsZ
  rw [List.length_map]
  omega
end Go.Proofs.Ytlnapfeglbdecaa.M
namespace Go.Proofs.Ytlnapfeglbdecaa
open Go.RowKit
theorem i64_or8 (x z : Int) (hx0 : 0 ≤ x) (hx1 : x ≤ 255) (hz0 : 0 ≤ z) (hz1 : z ≤ 255) : bits .or .i64 (x * 256) z = x * 256 + z :=
  bits_join .i64 62 (by decide) (fun n h0 h1 => by rw [IntKind.wrap_i64]; omega) 8 (x * 256) z (by omega) (by omega) (by omega) hz0 (by omega) (by omega)
theorem box_set {w : World} {g : Nat} {a b c d u : Value} (h : w.heap[g]? = some (.cells #[a, b, c, d] 52 (0, 0))) : (w.setCell ⟨g, 2, none⟩ u).heap[g]? = some (.cells #[a, b, u, d] 52 (0, 0)) ∧ (w.setCell ⟨g, 3, none⟩ u).heap[g]? = some (.cells #[a, b, c, u] 52 (0, 0)) :=
  ⟨set_row h, set_row h⟩
set_option maxRecDepth 8000 in
set_option maxHeartbeats 8000000 in
theorem rdecode_any (hN : NameC) (v : Value) (b : List Int) (w : World) (hv : View w v b) :
    Calls Try.prog 10 #[v] w fun e w' => Below w.heap.size w w' ∧ ∃ v', e = .returned (.tuple #[v', .int .i64 (decZ5 b).2.1, .int .i64 (decZ5 b).2.2]) ∧ w'.ownsRow w.heap.size 52 4 v' (decZ5 b).1.length (icells (decZ5 b).1) := by
  have HV := hidIt hv
  have HZ : Hid (decZ5 b = if 1024 < b.length then ([], 3, 0) else decL5 b b.length 0 []) := by show _ = _; unfold decZ5; rfl
  have HNM := hidIt hN
  generalize decZ5 b = Z at *
  obtain ⟨ao, cap, rfl, hc, hm, hy, hl⟩ := hv
  unfold maxLen at hm
  clear hN
  by_cases hbig : 1024 < b.length
  · have hb' : (1024 : Int) < (b.length : Int) := by omega
    have e := HZ.out
    rw [if_pos hbig] at e
    subst e
    clear HZ HV HNM
    go_enter Try.func10, Try.ntmps10
    go_wp2
    go_ret3
    exact ⟨Below.refl _ _, _, rfl, World.ownsRow_nil _ _ _ _⟩
  · have hb' : ¬ (1024 : Int) < (b.length : Int) := by omega
    have hz2 := HZ.out
    rw [if_neg hbig] at hz2
    have HZ2 := hidIt hz2
    clear HZ hz2
    go_enter Try.func10, Try.ntmps10
    go_wp2
    go_loopw [5, 6] (fun l at_ wr => ∃ (p f : Nat) (acc : List IN), at_ = .int .i64 (p : Int) ∧ p ≤ b.length ∧ acc.length ≤ p ∧ Hid (b.length ≤ p + f ∧ Z = decL5 b f p acc) ∧ wr.ownsRow w.heap.size 52 4 l acc.length (icells acc) ∧ Below w.heap.size w wr) (fun _ at_ _ => b.length - (intOf at_).toNat)
    case atStart => exact ⟨0, b.length, [], rfl, Nat.zero_le _, Nat.zero_le _, ⟨by omega, HZ2.out⟩, World.ownsRow_nil _ _ _ _, Below.refl _ _⟩
    case round =>
      clear HZ2
      obtain ⟨p, f, acc, rfl, hp, hacc, HZ, ho, hb⟩ := hrel
      obtain ⟨aol, capl, rfl⟩ := own_slice ho
      by_cases hlt : p < b.length
      · have hlt' : (p : Int) < (b.length : Int) := by omega
        have hbl : (b.length : Int) ≤ 1024 := by omega
        obtain ⟨op, t, hd⟩ : ∃ op t, b.drop p = op :: t := by
          cases h : b.drop p with
          | nil => have := congrArg List.length h; simp at this; omega
          | cons op t => exact ⟨op, t, rfl⟩
        have hdj : ∀ j, b[p + j]? = (op :: t)[j]? := fun j => by rw [← hd, List.getElem?_drop]
        have hop : b[p]? = some op := hdj 0
        obtain ⟨g, off, rfl, hla⟩ : ∃ g off, ao = some ⟨g, off, none⟩ ∧ Lies w g off b := by
          rcases hl with h | h
          · rw [h] at hlt; simp at hlt
          · exact h
        have c0 : wr.cell? ⟨g, off + p, none⟩ = some (.int .u8 op) := cell_later hb (hla p op hop)
        obtain ⟨o0, o1⟩ := hy op (List.mem_of_getElem? hop)
        have hg := cell_lt c0
        have hs3 := sz_le op
        have htl : t.length + 1 = b.length - p := by
          have := congrArg List.length hd
          rw [List.length_drop, List.length_cons] at this; omega
        obtain ⟨f', hf', hz⟩ : ∃ f', b.length ≤ p + 1 + f' ∧ Z = decL5 b (f' + 1) p acc := by
          obtain ⟨h1, h2⟩ := HZ.out
          match f, h1, h2 with
          | 0, h1, _ => omega
          | f' + 1, h1, h2 => exact ⟨f', by omega, h2⟩
        rw [dec_step b f' p acc hd] at hz
        have HZ1 := hidIt hz
        have HO := hidIt ho
        have HB := hidIt hb
        have HBX : Hid (Below wr.heap.size wr (wr.alloc (.cells #[.int .i64 (p : Int), .int .i64 op, .int .i64 0, .int .i64 0] 52))) := below_alloc wr _
        have HX0 : Hid ((wr.alloc (.cells #[.int .i64 (p : Int), .int .i64 op, .int .i64 0, .int .i64 0] 52)).heap[wr.heap.size]? = some (.cells #[.int .i64 (p : Int), .int .i64 op, .int .i64 0, .int .i64 0] 52 (0, 0))) := heap_alloc_new _ _
        have gS := hidIt (rsize HNM.out op (wr.alloc (.cells #[.int .i64 (p : Int), .int .i64 op, .int .i64 0, .int .i64 0] 52)))
        have hz0 := sz_zero op
        have HTL := hidIt htl
        have HCJ : Hid (∀ j x, t[j]? = some x → w.cell? ⟨g, off + (p + (j + 1)), none⟩ = some (.int .u8 x) ∧ 0 ≤ x ∧ x ≤ 255) := fun j x hj => by
          have h1 : b[p + (j + 1)]? = some x := by rw [hdj (j + 1)]; simpa using hj
          exact ⟨hla _ x h1, hy x (List.mem_of_getElem? h1)⟩
        clear hz hd hdj HZ ho hb hop hla htl HV
        go_wp2_with fail
        refine gS.out.mono ?_
        rintro e w2 ⟨rfl, b2⟩
        have HB2 := hidIt (HBX.out.trans (b2.mono (by simp)))
        have HX2 := hidIt ((b2.block wr.heap.size (by simp)).trans HX0.out)
        clear b2 gS HX0 HBX
        have d0 := cell_row HX2.out 0 rfl
        have d1 := cell_row HX2.out 1 rfl
        have d2 := cell_row HX2.out 2 rfl
        have d3 := cell_row HX2.out 3 rfl
        have df := frozen_row HX2.out
        have HBW := hidIt (HB.out.trans (HB2.out.mono HB.out.size))
        by_cases hk : kd op = 0
        · rw [hz0.2 hk]
          have hz := HZ1.out
          rw [if_pos hk] at hz
          clear HZ1 hz0
          go_wp2
          go_ret3
          subst hz
          exact ⟨HBW.out, _, rfl, World.ownsRow_nil _ _ _ _⟩
        · have hz := HZ1.out
          rw [if_neg hk] at hz
          have hsz : sz op ≠ 0 := fun h => hk (hz0.1 h)
          clear HZ1 hz0
          by_cases hcut : b.length < p + sz op
          · rw [if_pos hcut] at hz
            generalize sz op = s at *
            have s0 : ((s : Int) == 0) = false := by simpa using hsz
            have hc' : (b.length : Int) < (p : Int) + (s : Int) := by omega
            go_wp2
            go_ret3
            subst hz
            exact ⟨HBW.out, _, rfl, World.ownsRow_nil _ _ _ _⟩
          · rw [if_neg hcut] at hz
            have HZ3 := hidIt hz
            have gB := hidIt (fun W => rbranch op W)
            have gG := hidIt (fun W => rsigned op W)
            have hgx : g ≠ wr.heap.size := by omega
            clear hz
            rcases kd_cases op with hkk | hkk | hkk | hkk | hkk | hkk | hkk | hkk
            · exact absurd hkk hk
            · rw [show sz op = 1 by unfold sz; rw [hkk]; rfl] at hcut HZ3 hsz ⊢
              rw [decide_eq_false (show ¬ kd op = 6 by omega)] at gB
              rw [show sg5 op = false by unfold sg5; rw [hkk]; rfl] at gG
              have n132 : (op == 132) = false := by
                rw [beq_eq_false_iff_ne]; intro e; rw [e] at hkk; exact absurd hkk (by decide)
              have HI : Hid (inst (p : Int) op t = ⟨(p : Int), op, 0, 0⟩) := by
                show _ = _
                unfold inst
                rw [hkk]
                rfl
              have hps : (p : Int) + 1 ≤ (b.length : Int) := by omega
              clear HCJ hcut hsz hk
              go_wp2_with fail
              refine (gB.out _).mono ?_
              rintro e w3 ⟨rfl, hww⟩; cases hww
              have HBr4 : Hid (Below wr.heap.size wr (w2)) := HB2.out
              have HX4 : Hid ((w2).heap[wr.heap.size]? = some (.cells #[.int .i64 (p : Int), .int .i64 op, .int .i64 (0), .int .i64 (0)] 52 (0, 0))) := HX2.out
              clear d0 d1 d2 d3 df
              have HBr5 := HBr4
              have e0 := cell_row HX4.out 0 rfl
              have e1 := cell_row HX4.out 1 rfl
              have e2 := cell_row HX4.out 2 rfl
              have e3 := cell_row HX4.out 3 rfl
              have ef := frozen_row HX4.out
              have HBW4 := hidIt (HB.out.trans (HBr5.out.mono HB.out.size))
              have V4 := IView.laid1 (w2) ⟨(p : Int), op, 0, 0⟩
              have O4 := own_alloc (own_below HO.out HBr5.out) (.cells #[.int .i64 (p : Int), .int .i64 op, .int .i64 (0), .int .i64 (0)] 52)
              have z4 := HBW4.out.size
              go_wp2_with (at_builtin; refine wpList_iappend rfl _ _ rfl w.heap.size _ _ _ _ [⟨(p : Int), op, 0, 0⟩] rfl O4 rfl V4 (by simp; omega) (by simp; omega) ?_; intro v5 w5 ho5 st5; obtain ⟨ao5, cap5, rfl⟩ := own_slice ho5; have HS5 := hidIt (of_alloc st5); have HO5 := hidIt ho5; clear st5 ho5 V4 O4)
              have O5 := HO5.out
              have hb5 := HBW4.out.trans (HS5.out.below z4 (fun k hk => (HO.out.lt k hk).1))
              have hz := HZ3.out
              rw [HI.out] at hz
              exact ⟨⟨p + 1, f', acc ++ [⟨(p : Int), op, 0, 0⟩], by go_num, by omega, by simp; omega, ⟨by omega, hz⟩, by rw [icells_append, List.length_append]; exact O5, hb5⟩, by simp [intOf]; omega⟩
            · rw [show sz op = 2 by unfold sz; rw [hkk]; rfl] at hcut HZ3 hsz ⊢
              rw [decide_eq_false (show ¬ kd op = 6 by omega)] at gB
              rw [show sg5 op = false by unfold sg5; rw [hkk]; rfl] at gG
              have n132 : (op == 132) = false := by
                rw [beq_eq_false_iff_ne]; intro e; rw [e] at hkk; exact absurd hkk (by decide)
              obtain ⟨x, hx⟩ : ∃ x, t[0]? = some x := ⟨t[0]'(by have := HTL.out; omega), List.getElem?_eq_getElem _⟩
              obtain ⟨cx, x0, x1⟩ := HCJ.out 0 x hx
              have cx2 := cell_later HB2.out (cell_later HB.out cx)
              have HI : Hid (inst (p : Int) op t = ⟨(p : Int), op, x, 0⟩) := by
                show _ = _
                unfold inst
                rw [hkk]
                simp only [List.getD_eq_getElem?_getD, hx, Option.getD_some]
              have hps : (p : Int) + 2 ≤ (b.length : Int) := by omega
              clear HCJ hcut hsz hk
              clear cx hx
              go_wp2_with fail
              refine (gG.out _).mono ?_
              rintro e w3 ⟨rfl, hww⟩; cases hww
              go_wp2_with fail
              refine (gB.out _).mono ?_
              rintro e w3 ⟨rfl, hww⟩; cases hww
              have HBr4 : Hid (Below wr.heap.size wr (w2.setCell ⟨wr.heap.size, 2, none⟩ (.int .i64 (x)))) := set_below HB2.out (Nat.le_refl _) _ _
              have HX4 : Hid ((w2.setCell ⟨wr.heap.size, 2, none⟩ (.int .i64 (x))).heap[wr.heap.size]? = some (.cells #[.int .i64 (p : Int), .int .i64 op, .int .i64 (x), .int .i64 (0)] 52 (0, 0))) := (box_set HX2.out).1
              generalize w2.setCell ⟨wr.heap.size, 2, none⟩ (.int .i64 (x)) = w4 at *
              have HBr5 := HBr4
              have e0 := cell_row HX4.out 0 rfl
              have e1 := cell_row HX4.out 1 rfl
              have e2 := cell_row HX4.out 2 rfl
              have e3 := cell_row HX4.out 3 rfl
              have ef := frozen_row HX4.out
              have HBW4 := hidIt (HB.out.trans (HBr5.out.mono HB.out.size))
              have V4 := IView.laid1 (w4) ⟨(p : Int), op, x, 0⟩
              have O4 := own_alloc (own_below HO.out HBr5.out) (.cells #[.int .i64 (p : Int), .int .i64 op, .int .i64 (x), .int .i64 (0)] 52)
              have z4 := HBW4.out.size
              go_wp2_with (at_builtin; refine wpList_iappend rfl _ _ rfl w.heap.size _ _ _ _ [⟨(p : Int), op, x, 0⟩] rfl O4 rfl V4 (by simp; omega) (by simp; omega) ?_; intro v5 w5 ho5 st5; obtain ⟨ao5, cap5, rfl⟩ := own_slice ho5; have HS5 := hidIt (of_alloc st5); have HO5 := hidIt ho5; clear st5 ho5 V4 O4)
              have O5 := HO5.out
              have hb5 := HBW4.out.trans (HS5.out.below z4 (fun k hk => (HO.out.lt k hk).1))
              have hz := HZ3.out
              rw [HI.out] at hz
              exact ⟨⟨p + 2, f', acc ++ [⟨(p : Int), op, x, 0⟩], by go_num, by omega, by simp; omega, ⟨by omega, hz⟩, by rw [icells_append, List.length_append]; exact O5, hb5⟩, by simp [intOf]; omega⟩
            · rw [show sz op = 2 by unfold sz; rw [hkk]; rfl] at hcut HZ3 hsz ⊢
              rw [decide_eq_false (show ¬ kd op = 6 by omega)] at gB
              rw [show sg5 op = true by unfold sg5; rw [hkk]; rfl] at gG
              have n132 : (op == 132) = false := by
                rw [beq_eq_false_iff_ne]; intro e; rw [e] at hkk; exact absurd hkk (by decide)
              obtain ⟨x, hx⟩ : ∃ x, t[0]? = some x := ⟨t[0]'(by have := HTL.out; omega), List.getElem?_eq_getElem _⟩
              obtain ⟨cx, x0, x1⟩ := HCJ.out 0 x hx
              have cx2 := cell_later HB2.out (cell_later HB.out cx)
              have HI : Hid (inst (p : Int) op t = ⟨(p : Int), op, s8 x, 0⟩) := by
                show _ = _
                unfold inst
                rw [hkk]
                simp only [List.getD_eq_getElem?_getD, hx, Option.getD_some]
              have hps : (p : Int) + 2 ≤ (b.length : Int) := by omega
              clear HCJ hcut hsz hk
              clear cx hx
              have hw := wrap_s8 x x0 x1
              have hsb : -128 ≤ s8 x ∧ s8 x ≤ 127 := by unfold s8; split <;> omega
              obtain ⟨hs0, hs1⟩ := hsb
              generalize s8 x = q at *
              go_wp2_with fail
              refine (gG.out _).mono ?_
              rintro e w3 ⟨rfl, hww⟩; cases hww
              go_wp2_with fail
              refine (gB.out _).mono ?_
              rintro e w3 ⟨rfl, hww⟩; cases hww
              have HBr4 : Hid (Below wr.heap.size wr (w2.setCell ⟨wr.heap.size, 2, none⟩ (.int .i64 (q)))) := set_below HB2.out (Nat.le_refl _) _ _
              have HX4 : Hid ((w2.setCell ⟨wr.heap.size, 2, none⟩ (.int .i64 (q))).heap[wr.heap.size]? = some (.cells #[.int .i64 (p : Int), .int .i64 op, .int .i64 (q), .int .i64 (0)] 52 (0, 0))) := (box_set HX2.out).1
              generalize w2.setCell ⟨wr.heap.size, 2, none⟩ (.int .i64 (q)) = w4 at *
              have HBr5 := HBr4
              have e0 := cell_row HX4.out 0 rfl
              have e1 := cell_row HX4.out 1 rfl
              have e2 := cell_row HX4.out 2 rfl
              have e3 := cell_row HX4.out 3 rfl
              have ef := frozen_row HX4.out
              have HBW4 := hidIt (HB.out.trans (HBr5.out.mono HB.out.size))
              have V4 := IView.laid1 (w4) ⟨(p : Int), op, q, 0⟩
              have O4 := own_alloc (own_below HO.out HBr5.out) (.cells #[.int .i64 (p : Int), .int .i64 op, .int .i64 (q), .int .i64 (0)] 52)
              have z4 := HBW4.out.size
              go_wp2_with (at_builtin; refine wpList_iappend rfl _ _ rfl w.heap.size _ _ _ _ [⟨(p : Int), op, q, 0⟩] rfl O4 rfl V4 (by simp; omega) (by simp; omega) ?_; intro v5 w5 ho5 st5; obtain ⟨ao5, cap5, rfl⟩ := own_slice ho5; have HS5 := hidIt (of_alloc st5); have HO5 := hidIt ho5; clear st5 ho5 V4 O4)
              have O5 := HO5.out
              have hb5 := HBW4.out.trans (HS5.out.below z4 (fun k hk => (HO.out.lt k hk).1))
              have hz := HZ3.out
              rw [HI.out] at hz
              exact ⟨⟨p + 2, f', acc ++ [⟨(p : Int), op, q, 0⟩], by go_num, by omega, by simp; omega, ⟨by omega, hz⟩, by rw [icells_append, List.length_append]; exact O5, hb5⟩, by simp [intOf]; omega⟩
            · rw [show sz op = 3 by unfold sz; rw [hkk]; rfl] at hcut HZ3 hsz ⊢
              rw [decide_eq_false (show ¬ kd op = 6 by omega)] at gB
              rw [show sg5 op = false by unfold sg5; rw [hkk]; rfl] at gG
              have n132 : (op == 132) = false := by
                rw [beq_eq_false_iff_ne]; intro e; rw [e] at hkk; exact absurd hkk (by decide)
              obtain ⟨x, hx⟩ : ∃ x, t[0]? = some x := ⟨t[0]'(by have := HTL.out; omega), List.getElem?_eq_getElem _⟩
              obtain ⟨cx, x0, x1⟩ := HCJ.out 0 x hx
              have cx2 := cell_later HB2.out (cell_later HB.out cx)
              obtain ⟨z, hzz⟩ : ∃ z, t[1]? = some z := ⟨t[1]'(by have := HTL.out; omega), List.getElem?_eq_getElem _⟩
              obtain ⟨cz, z0, z1⟩ := HCJ.out 1 z hzz
              have cz2 := cell_later HB2.out (cell_later HB.out cz)
              have HI : Hid (inst (p : Int) op t = ⟨(p : Int), op, x * 256 + z, 0⟩) := by
                show _ = _
                unfold inst
                rw [hkk]
                simp only [List.getD_eq_getElem?_getD, hx, hzz, Option.getD_some]
              have hps : (p : Int) + 3 ≤ (b.length : Int) := by omega
              clear HCJ hcut hsz hk
              clear cx hx
              clear cz hzz
              have hor := i64_or8 x z x0 x1 z0 z1
              go_wp2_with fail
              refine (gG.out _).mono ?_
              rintro e w3 ⟨rfl, hww⟩; cases hww
              go_wp2_with fail
              go_region
              go_wp2_with fail
              refine (gB.out _).mono ?_
              rintro e w3 ⟨rfl, hww⟩; cases hww
              have HBr4 : Hid (Below wr.heap.size wr ((w2.setCell ⟨wr.heap.size, 2, none⟩ (.int .i64 (x * 256 + z))).drew)) := below_drewN (set_below HB2.out (Nat.le_refl _) _ _) 1
              have HX4 : Hid (((w2.setCell ⟨wr.heap.size, 2, none⟩ (.int .i64 (x * 256 + z))).drew).heap[wr.heap.size]? = some (.cells #[.int .i64 (p : Int), .int .i64 op, .int .i64 (x * 256 + z), .int .i64 (0)] 52 (0, 0))) := (box_set HX2.out).1
              generalize (w2.setCell ⟨wr.heap.size, 2, none⟩ (.int .i64 (x * 256 + z))).drew = w4 at *
              have HBr5 := HBr4
              have e0 := cell_row HX4.out 0 rfl
              have e1 := cell_row HX4.out 1 rfl
              have e2 := cell_row HX4.out 2 rfl
              have e3 := cell_row HX4.out 3 rfl
              have ef := frozen_row HX4.out
              have HBW4 := hidIt (HB.out.trans (HBr5.out.mono HB.out.size))
              have V4 := IView.laid1 (w4) ⟨(p : Int), op, x * 256 + z, 0⟩
              have O4 := own_alloc (own_below HO.out HBr5.out) (.cells #[.int .i64 (p : Int), .int .i64 op, .int .i64 (x * 256 + z), .int .i64 (0)] 52)
              have z4 := HBW4.out.size
              go_wp2_with (at_builtin; refine wpList_iappend rfl _ _ rfl w.heap.size _ _ _ _ [⟨(p : Int), op, x * 256 + z, 0⟩] rfl O4 rfl V4 (by simp; omega) (by simp; omega) ?_; intro v5 w5 ho5 st5; obtain ⟨ao5, cap5, rfl⟩ := own_slice ho5; have HS5 := hidIt (of_alloc st5); have HO5 := hidIt ho5; clear st5 ho5 V4 O4)
              have O5 := HO5.out
              have hb5 := HBW4.out.trans (HS5.out.below z4 (fun k hk => (HO.out.lt k hk).1))
              have hz := HZ3.out
              rw [HI.out] at hz
              exact ⟨⟨p + 3, f', acc ++ [⟨(p : Int), op, x * 256 + z, 0⟩], by go_num, by omega, by simp; omega, ⟨by omega, hz⟩, by rw [icells_append, List.length_append]; exact O5, hb5⟩, by simp [intOf]; omega⟩
            · rw [show sz op = 3 by unfold sz; rw [hkk]; rfl] at hcut HZ3 hsz ⊢
              rw [decide_eq_false (show ¬ kd op = 6 by omega)] at gB
              rw [show sg5 op = true by unfold sg5; rw [hkk]; rfl] at gG
              have n132 : (op == 132) = false := by
                rw [beq_eq_false_iff_ne]; intro e; rw [e] at hkk; exact absurd hkk (by decide)
              obtain ⟨x, hx⟩ : ∃ x, t[0]? = some x := ⟨t[0]'(by have := HTL.out; omega), List.getElem?_eq_getElem _⟩
              obtain ⟨cx, x0, x1⟩ := HCJ.out 0 x hx
              have cx2 := cell_later HB2.out (cell_later HB.out cx)
              obtain ⟨z, hzz⟩ : ∃ z, t[1]? = some z := ⟨t[1]'(by have := HTL.out; omega), List.getElem?_eq_getElem _⟩
              obtain ⟨cz, z0, z1⟩ := HCJ.out 1 z hzz
              have cz2 := cell_later HB2.out (cell_later HB.out cz)
              have HI : Hid (inst (p : Int) op t = ⟨(p : Int), op, s16 (x * 256 + z), 0⟩) := by
                show _ = _
                unfold inst
                rw [hkk]
                simp only [List.getD_eq_getElem?_getD, hx, hzz, Option.getD_some]
              have hps : (p : Int) + 3 ≤ (b.length : Int) := by omega
              clear HCJ hcut hsz hk
              clear cx hx
              clear cz hzz
              have hor := u16_or8 x z x0 x1 z0 z1
              have hw := wrap_s16 (x * 256 + z) (by omega) (by omega)
              have hsb : -32768 ≤ s16 (x * 256 + z) ∧ s16 (x * 256 + z) ≤ 32767 := by unfold s16; split <;> omega
              obtain ⟨hs0, hs1⟩ := hsb
              generalize s16 (x * 256 + z) = q at *
              go_wp2_with fail
              refine (gG.out _).mono ?_
              rintro e w3 ⟨rfl, hww⟩; cases hww
              go_wp2_with fail
              go_region
              go_wp2_with fail
              refine (gB.out _).mono ?_
              rintro e w3 ⟨rfl, hww⟩; cases hww
              have HBr4 : Hid (Below wr.heap.size wr ((w2.setCell ⟨wr.heap.size, 2, none⟩ (.int .i64 (q))).drew)) := below_drewN (set_below HB2.out (Nat.le_refl _) _ _) 1
              have HX4 : Hid (((w2.setCell ⟨wr.heap.size, 2, none⟩ (.int .i64 (q))).drew).heap[wr.heap.size]? = some (.cells #[.int .i64 (p : Int), .int .i64 op, .int .i64 (q), .int .i64 (0)] 52 (0, 0))) := (box_set HX2.out).1
              generalize (w2.setCell ⟨wr.heap.size, 2, none⟩ (.int .i64 (q))).drew = w4 at *
              have HBr5 := HBr4
              have e0 := cell_row HX4.out 0 rfl
              have e1 := cell_row HX4.out 1 rfl
              have e2 := cell_row HX4.out 2 rfl
              have e3 := cell_row HX4.out 3 rfl
              have ef := frozen_row HX4.out
              have HBW4 := hidIt (HB.out.trans (HBr5.out.mono HB.out.size))
              have V4 := IView.laid1 (w4) ⟨(p : Int), op, q, 0⟩
              have O4 := own_alloc (own_below HO.out HBr5.out) (.cells #[.int .i64 (p : Int), .int .i64 op, .int .i64 (q), .int .i64 (0)] 52)
              have z4 := HBW4.out.size
              go_wp2_with (at_builtin; refine wpList_iappend rfl _ _ rfl w.heap.size _ _ _ _ [⟨(p : Int), op, q, 0⟩] rfl O4 rfl V4 (by simp; omega) (by simp; omega) ?_; intro v5 w5 ho5 st5; obtain ⟨ao5, cap5, rfl⟩ := own_slice ho5; have HS5 := hidIt (of_alloc st5); have HO5 := hidIt ho5; clear st5 ho5 V4 O4)
              have O5 := HO5.out
              have hb5 := HBW4.out.trans (HS5.out.below z4 (fun k hk => (HO.out.lt k hk).1))
              have hz := HZ3.out
              rw [HI.out] at hz
              exact ⟨⟨p + 3, f', acc ++ [⟨(p : Int), op, q, 0⟩], by go_num, by omega, by simp; omega, ⟨by omega, hz⟩, by rw [icells_append, List.length_append]; exact O5, hb5⟩, by simp [intOf]; omega⟩
            · rw [show sz op = 3 by unfold sz; rw [hkk]; rfl] at hcut HZ3 hsz ⊢
              rw [decide_eq_true hkk] at gB
              rw [show sg5 op = true by unfold sg5; rw [hkk]; rfl] at gG
              have n132 : (op == 132) = false := by
                rw [beq_eq_false_iff_ne]; intro e; rw [e] at hkk; exact absurd hkk (by decide)
              obtain ⟨x, hx⟩ : ∃ x, t[0]? = some x := ⟨t[0]'(by have := HTL.out; omega), List.getElem?_eq_getElem _⟩
              obtain ⟨cx, x0, x1⟩ := HCJ.out 0 x hx
              have cx2 := cell_later HB2.out (cell_later HB.out cx)
              obtain ⟨z, hzz⟩ : ∃ z, t[1]? = some z := ⟨t[1]'(by have := HTL.out; omega), List.getElem?_eq_getElem _⟩
              obtain ⟨cz, z0, z1⟩ := HCJ.out 1 z hzz
              have cz2 := cell_later HB2.out (cell_later HB.out cz)
              have HI : Hid (inst (p : Int) op t = ⟨(p : Int), op, s16 (x * 256 + z) + (p : Int), 0⟩) := by
                show _ = _
                unfold inst
                rw [hkk]
                simp only [List.getD_eq_getElem?_getD, hx, hzz, Option.getD_some]
              have hps : (p : Int) + 3 ≤ (b.length : Int) := by omega
              clear HCJ hcut hsz hk
              clear cx hx
              clear cz hzz
              have hor := u16_or8 x z x0 x1 z0 z1
              have hw := wrap_s16 (x * 256 + z) (by omega) (by omega)
              have hsb : -32768 ≤ s16 (x * 256 + z) ∧ s16 (x * 256 + z) ≤ 32767 := by unfold s16; split <;> omega
              obtain ⟨hs0, hs1⟩ := hsb
              generalize s16 (x * 256 + z) = q at *
              go_wp2_with fail
              refine (gG.out _).mono ?_
              rintro e w3 ⟨rfl, hww⟩; cases hww
              go_wp2_with fail
              go_region
              go_wp2_with fail
              refine (gB.out _).mono ?_
              rintro e w3 ⟨rfl, hww⟩; cases hww
              have HBr4 : Hid (Below wr.heap.size wr ((w2.setCell ⟨wr.heap.size, 2, none⟩ (.int .i64 (q))).drew)) := below_drewN (set_below HB2.out (Nat.le_refl _) _ _) 1
              have HX4 : Hid (((w2.setCell ⟨wr.heap.size, 2, none⟩ (.int .i64 (q))).drew).heap[wr.heap.size]? = some (.cells #[.int .i64 (p : Int), .int .i64 op, .int .i64 (q), .int .i64 (0)] 52 (0, 0))) := (box_set HX2.out).1
              generalize (w2.setCell ⟨wr.heap.size, 2, none⟩ (.int .i64 (q))).drew = w4 at *
              have HBr5 : Hid (Below wr.heap.size wr (w4.setCell ⟨wr.heap.size, 2, none⟩ (.int .i64 (q + (p : Int))))) := set_below HBr4.out (Nat.le_refl _) _ _
              have e0 := cell_row HX4.out 0 rfl
              have e1 := cell_row HX4.out 1 rfl
              have e2 := cell_row HX4.out 2 rfl
              have e3 := cell_row HX4.out 3 rfl
              have ef := frozen_row HX4.out
              have HBW4 := hidIt (HB.out.trans (HBr5.out.mono HB.out.size))
              have V4 := IView.laid1 (w4.setCell ⟨wr.heap.size, 2, none⟩ (.int .i64 (q + (p : Int)))) ⟨(p : Int), op, q + (p : Int), 0⟩
              rw [show (w4.setCell ⟨wr.heap.size, 2, none⟩ (.int .i64 (q + (p : Int)))).heap.size = w4.heap.size by simp [World.setCell]] at V4
              have O4 := own_alloc (own_below HO.out HBr5.out) (.cells #[.int .i64 (p : Int), .int .i64 op, .int .i64 (q + (p : Int)), .int .i64 (0)] 52)
              have z4 := HBW4.out.size
              have z5 : w.heap.size ≤ w4.heap.size := by simpa [World.setCell] using z4
              go_wp2_with (at_builtin; refine wpList_iappend rfl _ _ rfl w.heap.size _ _ _ _ [⟨(p : Int), op, q + (p : Int), 0⟩] rfl O4 rfl V4 (by simp; omega) (by simp; omega) ?_; intro v5 w5 ho5 st5; obtain ⟨ao5, cap5, rfl⟩ := own_slice ho5; have HS5 := hidIt (of_alloc st5); have HO5 := hidIt ho5; clear st5 ho5 V4 O4)
              have O5 := HO5.out
              have hb5 := HBW4.out.trans (HS5.out.below z4 (fun k hk => (HO.out.lt k hk).1))
              have hz := HZ3.out
              rw [HI.out] at hz
              exact ⟨⟨p + 3, f', acc ++ [⟨(p : Int), op, q + (p : Int), 0⟩], by go_num, by omega, by simp; omega, ⟨by omega, hz⟩, by rw [icells_append, List.length_append]; exact O5, hb5⟩, by simp [intOf]; omega⟩
            · rw [show sz op = 3 by unfold sz; rw [hkk]; rfl] at hcut HZ3 hsz ⊢
              rw [decide_eq_false (show ¬ kd op = 6 by omega)] at gB
              rw [show sg5 op = false by unfold sg5; rw [hkk]; rfl] at gG
              have n132 : (op == 132) = true := by rw [(kd_seven op).1 hkk]; rfl
              obtain ⟨x, hx⟩ : ∃ x, t[0]? = some x := ⟨t[0]'(by have := HTL.out; omega), List.getElem?_eq_getElem _⟩
              obtain ⟨cx, x0, x1⟩ := HCJ.out 0 x hx
              have cx2 := cell_later HB2.out (cell_later HB.out cx)
              obtain ⟨z, hzz⟩ : ∃ z, t[1]? = some z := ⟨t[1]'(by have := HTL.out; omega), List.getElem?_eq_getElem _⟩
              obtain ⟨cz, z0, z1⟩ := HCJ.out 1 z hzz
              have cz2 := cell_later HB2.out (cell_later HB.out cz)
              have HI : Hid (inst (p : Int) op t = ⟨(p : Int), op, x, s8 z⟩) := by
                show _ = _
                unfold inst
                rw [hkk]
                simp only [List.getD_eq_getElem?_getD, hx, hzz, Option.getD_some]
              have hps : (p : Int) + 3 ≤ (b.length : Int) := by omega
              clear HCJ hcut hsz hk
              clear cx hx
              clear cz hzz
              have hw := wrap_s8 z z0 z1
              have hsb : -128 ≤ s8 z ∧ s8 z ≤ 127 := by unfold s8; split <;> omega
              obtain ⟨hs0, hs1⟩ := hsb
              generalize s8 z = q at *
              go_wp2_with fail
              refine (gB.out _).mono ?_
              rintro e w3 ⟨rfl, hww⟩; cases hww
              have HBr4 : Hid (Below wr.heap.size wr ((w2.setCell ⟨wr.heap.size, 2, none⟩ (.int .i64 x)).setCell ⟨wr.heap.size, 3, none⟩ (.int .i64 q))) := set_below (set_below HB2.out (Nat.le_refl _) _ _) (Nat.le_refl _) _ _
              have HX4 : Hid (((w2.setCell ⟨wr.heap.size, 2, none⟩ (.int .i64 x)).setCell ⟨wr.heap.size, 3, none⟩ (.int .i64 q)).heap[wr.heap.size]? = some (.cells #[.int .i64 (p : Int), .int .i64 op, .int .i64 (x), .int .i64 (q)] 52 (0, 0))) := (box_set (box_set HX2.out).1).2
              generalize (w2.setCell ⟨wr.heap.size, 2, none⟩ (.int .i64 x)).setCell ⟨wr.heap.size, 3, none⟩ (.int .i64 q) = w4 at *
              have HBr5 := HBr4
              have e0 := cell_row HX4.out 0 rfl
              have e1 := cell_row HX4.out 1 rfl
              have e2 := cell_row HX4.out 2 rfl
              have e3 := cell_row HX4.out 3 rfl
              have ef := frozen_row HX4.out
              have HBW4 := hidIt (HB.out.trans (HBr5.out.mono HB.out.size))
              have V4 := IView.laid1 (w4) ⟨(p : Int), op, x, q⟩
              have O4 := own_alloc (own_below HO.out HBr5.out) (.cells #[.int .i64 (p : Int), .int .i64 op, .int .i64 (x), .int .i64 (q)] 52)
              have z4 := HBW4.out.size
              go_wp2_with (at_builtin; refine wpList_iappend rfl _ _ rfl w.heap.size _ _ _ _ [⟨(p : Int), op, x, q⟩] rfl O4 rfl V4 (by simp; omega) (by simp; omega) ?_; intro v5 w5 ho5 st5; obtain ⟨ao5, cap5, rfl⟩ := own_slice ho5; have HS5 := hidIt (of_alloc st5); have HO5 := hidIt ho5; clear st5 ho5 V4 O4)
              have O5 := HO5.out
              have hb5 := HBW4.out.trans (HS5.out.below z4 (fun k hk => (HO.out.lt k hk).1))
              have hz := HZ3.out
              rw [HI.out] at hz
              exact ⟨⟨p + 3, f', acc ++ [⟨(p : Int), op, x, q⟩], by go_num, by omega, by simp; omega, ⟨by omega, hz⟩, by rw [icells_append, List.length_append]; exact O5, hb5⟩, by simp [intOf]; omega⟩
      · have hlt' : ¬ (p : Int) < (b.length : Int) := by omega
        have hz := HZ.out.2
        rw [dec_end b f p acc (by omega)] at hz
        clear HZ
        go_wp2
        go_ret3
        subst hz
        exact ⟨hb, _, rfl, ho⟩
end Go.Proofs.Ytlnapfeglbdecaa
namespace Go.Proofs.Ytlnapfeglbdecaa
open Go.RowKit

theorem inst_pl (p op : Int) (t : List Int) : (inst p op t).pl = p := by
  unfold inst
  split <;> rfl
theorem dec_pl (b : List Int) (hb : b.length ≤ 1024) : ∀ (f p : Nat) (acc : List IN), (∀ x ∈ acc, 0 ≤ x.pl ∧ x.pl ≤ 1024) → ∀ x ∈ (decL5 b f p acc).1, 0 ≤ x.pl ∧ x.pl ≤ 1024
  | 0, p, acc, h => h
  | f + 1, p, acc, h => by
    unfold decL5
    split
    · exact h
    · rename_i op t hd
      have hp : p < b.length := by
        apply Nat.lt_of_not_le
        intro hle
        rw [List.drop_eq_nil_of_le hle] at hd
        cases hd
      split
      · exact fun x hx => by simp at hx
      · split
        · exact fun x hx => by simp at hx
        · refine dec_pl b hb f (p + sz op) (acc ++ [inst p op t]) ?_
          intro x hx
          rcases List.mem_append.1 hx with hx | hx
          · exact h x hx
          · simp at hx
            subst hx
            rw [inst_pl]
            omega
theorem dec_len (b : List Int) : ∀ (f p : Nat) (acc : List IN), (decL5 b f p acc).1.length ≤ acc.length + f
  | 0, p, acc => by unfold decL5; exact Nat.le_refl _
  | f + 1, p, acc => by
    unfold decL5
    split
    · exact Nat.le_add_right _ _
    · rename_i op t hd
      split
      · exact Nat.zero_le _
      · split
        · exact Nat.zero_le _
        · have := dec_len b f (p + sz op) (acc ++ [inst p op t])
          rw [List.length_append] at this
          simp at this
          omega
theorem decZ_small (b : List Int) : Places (decZ5 b).1 ∧ (decZ5 b).1.length ≤ 1024 := by
  unfold decZ5
  split
  · exact ⟨fun x hx => by simp at hx, Nat.zero_le _⟩
  · rename_i h
    refine ⟨fun x hx => ?_, ?_⟩
    · have := dec_pl b (by omega) b.length 0 [] (fun x hx => by simp at hx) x hx
      omega
    · have := dec_len b b.length 0 []
      simp at this
      omega
def toFN (y : M.FM) : FN := match y.lc, y.st with
  | .slice a n c, .slice a2 n2 c2 => ⟨y.at_, a, n, c, a2, n2, c2⟩
  | _, _ => ⟨y.at_, none, 0, 0, none, 0, 0⟩
theorem fr_slices {pl : Bool} {w : World} {y : M.FM} {z : Int × Bool} (h : M.FR1 pl w y z) : frow (toFN y) = M.frow y := by
  obtain ⟨z1, z2⟩ := z
  obtain ⟨h1, ⟨g, h2, h3⟩, h4⟩ := h
  cases z2
  · have h4' : y.st = .slice none 0 0 := h4
    unfold toFN M.frow frow
    rw [h2, h4']
  · obtain ⟨g2, h5, h6⟩ := h4
    unfold toFN M.frow frow
    rw [h2, h5]
theorem frames_view {pl : Bool} {w : World} {b : Nat} {v : Value} {fs : List M.FM} {zs : List (Int × Bool)} (h : w.ownsRow b 118 3 v fs.length (M.fcells fs)) (hz : M.FRs pl w fs zs) : FView w v (fs.map toFN) := by
  refine GView.f (GView.of_own (T := 118) (B := b) (fun _ => rfl) ?_)
  have e : (fs.map toFN).flatMap frow = M.fcells fs := by
    unfold M.fcells
    have H : ∀ y ∈ fs, frow (toFN y) = M.frow y := fun y hy => by
      obtain ⟨j, hj⟩ := List.getElem?_of_mem hy
      have hlt := (List.getElem?_eq_some_iff.1 hj).1
      obtain ⟨z, hzz⟩ : ∃ z, zs[j]? = some z := ⟨_, List.getElem?_eq_getElem (by rw [← hz.1]; exact hlt)⟩
      exact fr_slices (hz.2 j y z hj hzz)
    clear h hz
    induction fs with
    | nil => rfl
    | cons y r ih => rw [List.map_cons, List.flatMap_cons, List.flatMap_cons, H y (by simp), ih (fun z hz => H z (by simp [hz]))]
  rw [e, List.length_map]
  exact h
theorem code_view {w : World} {b : Nat} {v : Value} {l : List IN} (h : w.ownsRow b 5 1 v (encL l []).1.length (bcells (encL l []).1)) : View w v (encL l []).1 := by
  have hb := enc_bytes l [] (fun x hx => by simp at hx)
  rcases h.2 with ⟨rfl, h0⟩ | ⟨g, cap, cur, rfl, hB, hg, k1, k2, _⟩
  · exact ⟨none, 0, by rw [h0], by rw [h0]; exact Nat.le_refl _, by unfold maxLen; omega, hb, .inl (List.length_eq_zero_iff.1 h0)⟩
  · refine ⟨_, cap, rfl, k1, k2, hb, .inr ⟨g, 0, rfl, fun j x hj => ?_⟩⟩
    have := h.cells (g := g) rfl j (.int .u8 x) (by unfold bcells; rw [List.getElem?_map, hj]; rfl)
    have e : (⟨g, 0, none⟩ : Addr).add j = ⟨g, 0 + j, none⟩ := by unfold Addr.add; split <;> simp_all
    rw [e] at this
    exact this
end Go.Proofs.Ytlnapfeglbdecaa
