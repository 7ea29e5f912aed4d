/- Texts LVc LVd LVe LH. -/
import Derived.Test.YtlnapfeglbdecaaBr03
import Derived.Deep.RegionHeld3
import Derived.WalkMore
import Derived.Deep.LoopGhost
namespace Go.Proofs.Ytlnapfeglbdecaa
open Go.RowKit

def bitsL (s : BitVec 16) (n : Nat) : List Bool := (List.range n).map (fun v => s.getLsbD v)
theorem bitsL_len (s : BitVec 16) (n : Nat) : (bitsL s n).length = n := by simp [bitsL]
def mixB (s : BitVec 16) (n k : Nat) : List Bool := (List.range n).map (fun v => decide (v < k) && s.getLsbD v)
theorem mixB_zero (s : BitVec 16) (n : Nat) : mixB s n 0 = List.replicate n false := by
  apply List.ext_getElem?
  intro i
  by_cases h : i < n <;> simp [mixB, h]
theorem mixB_full (s : BitVec 16) (n : Nat) : mixB s n n = bitsL s n := by
  apply List.ext_getElem?
  intro i
  by_cases h : i < n <;> simp [mixB, bitsL, h]
theorem mixB_set (s : BitVec 16) (n k : Nat) (hk : k < n) : (mixB s n k).set k (s.getLsbD k) = mixB s n (k + 1) := by
  apply List.ext_getElem?
  intro i
  by_cases e : k = i
  · subst e
    rw [List.getElem?_set_self (by simp [mixB, hk])]
    simp [mixB, hk]
  · rw [List.getElem?_set_ne e]
    by_cases h : i < n
    · simp only [mixB, List.getElem?_map, List.getElem?_range h, Option.map_some]
      by_cases h2 : i < k
      · rw [decide_eq_true h2, decide_eq_true (by omega)]
      · rw [decide_eq_false h2, decide_eq_false (by omega)]
    · simp [mixB, h]
theorem ofInt_su (a : BitVec 16) : BitVec.ofInt 16 (su a) = a := by
  unfold su
  rw [BitVec.ofInt_natCast]
  simp
theorem wrap_su (a : BitVec 16) : IntKind.u16.wrap (a.toNat : Int) = su a := by
  have := a.isLt
  unfold su IntKind.wrap
  show (a.toNat : Int) % 65536 = _
  omega
theorem bits_and (a b : BitVec 16) : bits .and .u16 (su a) (su b) = su (a &&& b) := by
  have h : bits .and .u16 (su a) (su b) = IntKind.u16.wrap ((BitVec.ofInt 16 (su a) &&& BitVec.ofInt 16 (su b)).toNat : Int) := rfl
  rw [h, ofInt_su, ofInt_su, wrap_su]
theorem bits_or (a b : BitVec 16) : bits .or .u16 (su a) (su b) = su (a ||| b) := by
  have h : bits .or .u16 (su a) (su b) = IntKind.u16.wrap ((BitVec.ofInt 16 (su a) ||| BitVec.ofInt 16 (su b)).toNat : Int) := rfl
  rw [h, ofInt_su, ofInt_su, wrap_su]
theorem bits_andNot (a b : BitVec 16) : bits .andNot .u16 (su a) (su b) = su (a &&& ~~~ b) := by
  have h : bits .andNot .u16 (su a) (su b) = IntKind.u16.wrap ((BitVec.ofInt 16 (su a) &&& ~~~ BitVec.ofInt 16 (su b)).toNat : Int) := rfl
  rw [h, ofInt_su, ofInt_su, wrap_su]
theorem su_ne (a b : BitVec 16) : (su a != su b) = decide (a ≠ b) := by
  by_cases h : a = b
  · subst h; simp
  · rw [decide_eq_true h, bne_iff_ne]
    intro e
    exact h (BitVec.eq_of_toNat_eq (by unfold su at e; omega))
theorem has_bit (s : BitVec 16) (k : Nat) (hk : k < 16) : (bits .and .u16 (su s) (su (onlyS (k : Int))) != 0) = s.getLsbD k := by
  rw [bits_and, show (0 : Int) = su 0#16 from rfl, su_ne, and_only s k hk]
theorem mixB_get (s : BitVec 16) (n k : Nat) (hk : k < n) : (mixB s n k)[k]? = some false := by simp [mixB, hk]
theorem bit_at {r : List Bool} {w : World} {g k : Nat} {b : Bool} (h : w.heap[g]? = some (.cells (bcellsB r) 4 (0, 0))) (hk : r[k]? = some b) : w.cell? ⟨g, k, none⟩ = some (.bool b) := cell_row h k (by simp [bcellsB, hk])
theorem set_bit {r : List Bool} {w : World} {g k : Nat} {b : Bool} (h : w.heap[g]? = some (.cells (bcellsB r) 4 (0, 0))) : (w.setCell ⟨g, k, none⟩ (.bool b)).heap[g]? = some (.cells (bcellsB (r.set k b)) 4 (0, 0)) := by
  rw [set_row h]
  congr 2
  simp [bcellsB, List.map_set]
set_option maxRecDepth 8000 in
set_option maxHeartbeats 1000000 in
theorem list_any (s : BitVec 16) (L : Nat) (hL : L ≤ 16) (w : World) : Calls Try.prog 23 #[.int .u16 (su s), .int .i64 (L : Int)] w fun e w' => ∃ g, e = .returned (.slice (some ⟨g, 0, none⟩) L L) ∧ w.heap.size ≤ g ∧ w'.heap[g]? = some (.cells (bcellsB (bitsL s L)) 4 (0, 0)) ∧ Below w.heap.size w w' := by
  have G := hidIt (fun n W => only_any n W)
  obtain ⟨i0, hi, hz0, hz1, hz2⟩ := info_parts Try.infoB
  go_enter Try.func23, Try.ntmps23
  go_upto_region 2 with (at_make; refine wpList_make_row _ rfl _ _ 22 rfl 4 i0 (.bool false) Try.underlying22 hi hz0 hz1 rfl _ _ L rfl rfl (by rw [hz2]; omega) (by omega) ?_)
  have HA := hidIt (below_alloc w (.cells (madeCells #[.bool false] L) 4))
  have HN : Hid ((w.alloc (.cells (madeCells #[.bool false] L) 4)).heap[w.heap.size]? = some (.cells (bcellsB (mixB s L 0)) 4 (0, 0))) := by
    show _ = _
    rw [heap_alloc_new, made_bools, mixB_zero]
  generalize w.alloc (.cells (madeCells #[.bool false] L) 4) = w1 at *
  have hgz : w.heap.size ≤ w.heap.size := Nat.le_refl _
  generalize hgg : w.heap.size = g at *
  have hg2 := hidIt hgg
  clear hgg
  go_wp2_with fail
  go_loopw [6, 11] (fun _ i wr => ∃ k : Nat, k ≤ L ∧ i = .int .i64 (k : Int) ∧ wr.heap[g]? = some (.cells (bcellsB (mixB s L k)) 4 (0, 0)) ∧ Below g w wr) (fun _ i _ => L - (intOf i).toNat)
  case atStart => exact ⟨0, Nat.zero_le _, rfl, HN.out, HA.out⟩
  case round =>
    clear HN HA
    obtain ⟨k, hk, rfl, hn, hb⟩ := hrel
    have HN := hidIt hn
    have HB := hidIt hb
    clear hn hb
    by_cases hlt : k < L
    · have hlt' : (k : Int) < (L : Int) := by omega
      have HS : Hid ((bits .and .u16 (su s) (su (onlyS (k : Int))) != 0) = s.getLsbD k) := has_bit s k (by omega)
      have HG := hidIt (mixB_get s L k hlt)
      have HM := hidIt (mixB_set s L k hlt)
      go_upto_region 6 with (go_at_call 36; refine (G.out _ _).mono ?_; rintro e w2 ⟨rfl, b2⟩; have HN2 := hidIt ((b2.block _ (Array.getElem?_eq_some_iff.1 HN.out).1).trans HN.out); have HB2 := hidIt (HB.out.trans (b2.mono (Nat.le_of_lt (Array.getElem?_eq_some_iff.1 HN.out).1))); clear HN HB b2; have cn := bit_at HN2.out HG.out; have hf := frozen_row HN2.out k)
      rw [HS.out]
      have HN3 := hidIt (set_bit (k := k) (b := s.getLsbD k) HN2.out)
      rw [HM.out] at HN3
      have HB3 := hidIt (HB2.out.setCell (p := ⟨g, k, none⟩) (Nat.le_refl _) (.bool (s.getLsbD k)))
      clear HN2 HB2 HS HG HM
      generalize w2.setCell ⟨g, k, none⟩ (.bool (s.getLsbD k)) = w3 at *
      go_wp2
      exact ⟨⟨k + 1, by omega, by go_num, HN3.out, HB3.out⟩, by simp [intOf]; omega⟩
    · have hlt' : ¬ (k : Int) < (L : Int) := by omega
      obtain rfl : k = L := by omega
      rw [mixB_full] at HN
      go_wp2
      go_ret
      exact ⟨g, rfl, hg2.out ▸ Nat.le_refl _, HN.out, hg2.out ▸ HB.out⟩
end Go.Proofs.Ytlnapfeglbdecaa
namespace Go.Proofs.Ytlnapfeglbdecaa
open Go.RowKit

def ucells (s : List (BitVec 16)) : Array Value := (s.map (fun a => Value.int .u16 (su a))).toArray
structure Gr (B : World) (gg gn gc gs : Nat) (vl vh : Value) (l : List IN) (h : List HN) (s : List (BitVec 16)) (w : World) : Prop where
  bl : Below B.heap.size B w
  il : IView B vl l
  hl : HView B vh h
  row : w.heap[gg]? = some (.cells #[vl, .slice (some ⟨gn, 0, none⟩) l.length l.length, vh, .slice (some ⟨gc, 0, none⟩) h.length h.length, .slice (some ⟨gs, 0, none⟩) l.length l.length] 76 (0, 0))
  nx : ∃ cs, w.heap[gn]? = some (.cells cs 25 (0, 0)) ∧ ∀ j : Nat, j < l.length → ∃ u, cs[j]? = some u ∧ NOwn w 0 u (nextZ l (j : Int))
  ct : w.heap[gc]? = some (.cells (ncells (h.map (fun y => findZ l y.a))).toArray 3 (0, 0))
  sv : w.heap[gs]? = some (.cells (ucells s) 77 (0, 0))
  ln : s.length = l.length
  g0 : B.heap.size ≤ gs
theorem Gr.below {B : World} {gg gn gc gs : Nat} {vl vh : Value} {l : List IN} {h : List HN} {s : List (BitVec 16)} {w w' : World} (p : Gr B gg gn gc gs vl vh l h s w) (hb : Below w.heap.size w w') : Gr B gg gn gc gs vl vh l h s w' := by
  have H : ∀ {k : Nat} {o : Obj}, w.heap[k]? = some o → w'.heap[k]? = some o := fun hk => (hb.block _ (Array.getElem?_eq_some_iff.1 hk).1).trans hk
  refine ⟨p.bl.trans (hb.mono p.bl.size), p.il, p.hl, H p.row, ?_, H p.ct, H p.sv, p.ln, p.g0⟩
  obtain ⟨cs, h1, h2⟩ := p.nx
  refine ⟨cs, H h1, fun j hj => ?_⟩
  obtain ⟨u, h3, h4⟩ := h2 j hj
  refine ⟨u, h3, h4.1, ?_⟩
  rcases h4.2 with x | ⟨g', cap, cur, e, hB, hg', r⟩
  · exact .inl x
  · exact .inr ⟨g', cap, cur, e, hB, H hg', r⟩
theorem Gr.set {B : World} {gg gn gc gs : Nat} {vl vh : Value} {l : List IN} {h : List HN} {s : List (BitVec 16)} {w : World} (p : Gr B gg gn gc gs vl vh l h s w) (n : Nat) (a : BitVec 16) : Gr B gg gn gc gs vl vh l h (s.set n a) (w.setCell ⟨gs, n, none⟩ (.int .u16 (su a))) := by
  have H : ∀ {k : Nat} {cs : Array Value} {T : TypeId}, w.heap[k]? = some (.cells cs T (0, 0)) → T ≠ 77 → (w.setCell ⟨gs, n, none⟩ (.int .u16 (su a))).heap[k]? = some (.cells cs T (0, 0)) := fun {k cs T} hk hT => by
    rw [Below.heap_setCell _ _ _ _ (show k ≠ gs from other_block hk p.sv hT)]
    exact hk
  refine ⟨p.bl.setCell (p := ⟨gs, n, none⟩) p.g0 _, p.il, p.hl, H p.row (by decide), ?_, H p.ct (by decide), ?_, by rw [List.length_set]; exact p.ln, p.g0⟩
  · obtain ⟨cs, h1, h2⟩ := p.nx
    refine ⟨cs, H h1 (by decide), fun j hj => ?_⟩
    obtain ⟨u, h3, h4⟩ := h2 j hj
    exact ⟨u, h3, own_set h4 p.sv (by decide)⟩
  · rw [set_row p.sv]
    congr 2
    simp [ucells, List.map_set]
theorem Gr.live {B : World} {gg gn gc gs : Nat} {vl vh : Value} {l : List IN} {h : List HN} {s : List (BitVec 16)} {w : World} (p : Gr B gg gn gc gs vl vh l h s w) {m : Int} (h0 : 0 ≤ m) (hm : m < l.length) : w.cell? ⟨gs, m.toNat, none⟩ = some (.int .u16 (su (getS s m))) := by
  have hlt : m.toNat < s.length := by rw [p.ln]; omega
  refine cell_row p.sv m.toNat ?_
  unfold ucells getS
  rw [List.getElem?_toArray, List.getElem?_map, List.getElem?_eq_getElem hlt]
  rfl
set_option maxRecDepth 8000 in
set_option maxHeartbeats 4000000 in
theorem ahead_any {B : World} {gg gn gc gs : Nat} {vl vh : Value} {l : List IN} {h : List HN} {s : List (BitVec 16)} (n : Nat) (x : IN) (hx : l[n]? = some x) (w : World) (p : Gr B gg gn gc gs vl vh l h s w) :
    Calls Try.prog 35 #[.pointer (some ⟨gg, 0, none⟩), .int .i64 (n : Int)] w fun e w' => e = .returned (.int .u16 (su (ahZ l h s n x))) ∧ Below w.heap.size w w' := by
  have G1 := hidIt (fun W => reads_any x W)
  have G2 := hidIt (fun W => stores_any x W)
  unfold IN.val at G1 G2
  have HP := hidIt (fun W (b : Below w.heap.size w W) => p.below b)
  have hn := (List.getElem?_eq_some_iff.1 hx).1
  have hn' : (n : Int) < (l.length : Int) := by omega
  have hv := p.il
  have hu := p.hl
  obtain ⟨ao, cap, rfl, hc, hm, _⟩ := hv
  obtain ⟨ao2, cap2, rfl, hc2, hm2, _⟩ := hu
  unfold maxLen at hm hm2
  obtain ⟨g, off, rfl, c0, c1, c2, c3⟩ := (p.il.below p.bl).row hx
  have r0 := cell_row p.row 0 rfl
  have HA := hidIt (below_alloc w (.cells #[.int .i64 x.pl, .int .i64 x.op, .int .i64 x.a, .int .i64 x.b] 52))
  have HX := hidIt (heap_alloc_new w (.cells #[.int .i64 x.pl, .int .i64 x.op, .int .i64 x.a, .int .i64 x.b] 52))
  have HZ : Hid (ahZ l h s n x = orH l s x.pl h (rdS x ||| (orL s (nextZ l (n : Int)) 0#16 &&& ~~~ stS x))) := rfl
  have HNR : Hid (∀ m ∈ nextZ l (n : Int), 0 ≤ m ∧ m < l.length) := fun m hm => nextZ_range hm
  generalize ahZ l h s n x = Z at *
  go_enter Try.func35, Try.ntmps35
  go_upto_region 3 with (fail)
  generalize hw1 : w.alloc (.cells #[.int .i64 x.pl, .int .i64 x.op, .int .i64 x.a, .int .i64 x.b] 52) = w1 at *
  have HW1 := hidIt hw1
  clear hw1 c0 c1 c2 c3 r0
  have P1 := hidIt (HP.out _ HA.out)
  have r1 := cell_row P1.out.row 1 rfl
  obtain ⟨cs, hcs, hnx⟩ := P1.out.nx
  obtain ⟨u, hu1, hu2⟩ := hnx n hn
  obtain ⟨aon, capn, rfl⟩ := own_slice hu2
  have HU := hidIt hu2.view
  have r2 := cell_row hcs n hu1
  clear hcs hnx hu1 hu2
  have hz1 := HA.out.size
  have HO0 : Hid (orL s ((nextZ l (n : Int)).drop 0) 0#16 = orL s (nextZ l (n : Int)) 0#16) := rfl
  have hNl := nextZ_len l (n : Int)
  generalize nextZ l (n : Int) = NX at *
  go_wp2_with fail
  clear r1 r2
  have r4 := cell_row P1.out.row 4 rfl
  go_loopw [6, 8, 28] (fun vb _ i wr => wr = w1 ∧ ∃ (k : Nat) (a : BitVec 16), k ≤ NX.length ∧ i = .int .i64 (k : Int) ∧ vb = .int .u16 (su a) ∧ orL s (NX.drop k) a = orL s NX 0#16) (fun _ _ i _ => NX.length - (intOf i).toNat)
  case atStart => exact ⟨rfl, 0, 0#16, Nat.zero_le _, rfl, rfl, HO0.out⟩
  case round =>
    obtain ⟨hwr, k, a, hk, rfl, rfl, ho⟩ := hrel
    cases hwr
    have HO := hidIt ho
    clear ho
    by_cases hlt : k < NX.length
    · have hlt' : (k : Int) < (NX.length : Int) := by omega
      obtain ⟨m, hm0⟩ : ∃ m, NX[k]? = some m := ⟨NX[k], List.getElem?_eq_getElem hlt⟩
      obtain ⟨h1, h2⟩ := HNR.out m (List.mem_of_getElem? hm0)
      obtain ⟨gq, offq, rfl, c1⟩ := HU.out.row hm0
      have c2 := P1.out.live h1 h2
      rw [drop_at hm0] at HO
      clear hm0
      obtain ⟨m', rfl⟩ := Int.eq_ofNat_of_zero_le h1
      rw [Int.toNat_natCast] at c2
      go_wp2_with fail
      exact ⟨⟨by first | rfl | trivial, k + 1, a ||| getS s (m' : Int), by omega, by go_num, by rw [bits_or], HO.out⟩, by simp [intOf]; omega⟩
    · have hlt' : ¬ (k : Int) < (NX.length : Int) := by omega
      obtain rfl : k = NX.length := by omega
      rw [List.drop_length] at HO
      have ea := hidIt (show a = orL s NX 0#16 from HO.out)
      clear HO
      go_wp2_with fail
      have SX : Hid (∀ W, Below w1.heap.size w1 W → W.cell? ⟨w.heap.size, 0, none⟩ = some (.int .i64 x.pl) ∧ W.cell? ⟨w.heap.size, 1, none⟩ = some (.int .i64 x.op) ∧ W.cell? ⟨w.heap.size, 2, none⟩ = some (.int .i64 x.a) ∧ W.cell? ⟨w.heap.size, 3, none⟩ = some (.int .i64 x.b)) := fun W b => by
        have hX := (b.block _ (Array.getElem?_eq_some_iff.1 HX.out).1).trans HX.out
        exact ⟨cell_row hX 0 rfl, cell_row hX 1 rfl, cell_row hX 2 rfl, cell_row hX 3 rfl⟩
      have B0 : Hid (Below w1.heap.size w1 w1.drew) := ⟨rfl, rfl, rfl, Nat.le_refl _, fun _ _ => rfl⟩
      clear r4
      go_region_held3 (fun W => W.cell? ⟨w.heap.size, 0, none⟩ = some (.int .i64 x.pl) ∧ W.cell? ⟨w.heap.size, 1, none⟩ = some (.int .i64 x.op) ∧ W.cell? ⟨w.heap.size, 2, none⟩ = some (.int .i64 x.a) ∧ W.cell? ⟨w.heap.size, 3, none⟩ = some (.int .i64 x.b)) (first | exact SX.out _ B0.out | exact SX.out _ BA.out | exact SX.out _ BC.out)
        (first | (go_at_call 54; refine (G1.out _).mono ?_; rintro e w2 ⟨rfl, b2⟩; have BA := hidIt (B0.out.trans (b2.mono B0.out.size)); clear b2) | (go_at_call 55; refine (G2.out _).mono ?_; rintro e w3 ⟨rfl, b3⟩; have BC := hidIt (BA.out.trans (b3.mono BA.out.size)); clear b3))
      rw [bits_andNot, bits_or]
      have HZ2 : Hid (orH l s x.pl (h.drop 0) (rdS x ||| (a &&& ~~~ stS x)) = Z) := by
        show _ = _
        rw [HZ.out, ea.out]
        rfl
      generalize rdS x ||| (a &&& ~~~ stS x) = A0 at *
      have PW : Hid (∀ W, Below w1.heap.size w1 W → Gr B gg gn gc gs (Value.slice (some ⟨g, off, none⟩) l.length cap) (Value.slice ao2 h.length cap2) l h s W) := fun W b => P1.out.below b
      have r2 := cell_row (PW.out _ BC.out).row 2 rfl
      clear HZ ea P1 HNR HU HO0 BA B0 hNl G1 G2
      go_wp2_with fail
      clear r2
      go_loopw [9, 10, 11, 12, 54] (fun vb _ _ _ i wr => ∃ (k : Nat) (a : BitVec 16), k ≤ h.length ∧ i = .int .i64 (k : Int) ∧ vb = .int .u16 (su a) ∧ orH l s x.pl (h.drop k) a = Z ∧ Below w1.heap.size w1 wr) (fun _ _ _ _ i _ => h.length - (intOf i).toNat)
      case atStart => exact ⟨0, A0, Nat.zero_le _, rfl, rfl, HZ2.out, BC.out⟩
      case round =>
        clear BC HZ2
        obtain ⟨k, a, hk, rfl, rfl, ho, hb⟩ := hrel
        have HO := hidIt ho
        have HB := hidIt hb
        clear ho hb
        by_cases hlt : k < h.length
        · have hlt' : (k : Int) < (h.length : Int) := by omega
          obtain ⟨y, hy⟩ : ∃ y, h[k]? = some y := ⟨h[k], List.getElem?_eq_getElem hlt⟩
          obtain ⟨gh, offh, rfl, d0, d1, d2, d3⟩ := ((PW.out _ HB.out).hl.below (PW.out _ HB.out).bl).row hy
          rw [drop_at hy] at HO
          have HA2 := hidIt (below_alloc wr (.cells #[.int .i64 y.f, .int .i64 y.t, .int .i64 y.a, .string y.ty] 55))
          have HB2 := hidIt (HB.out.trans (HA2.out.mono HB.out.size))
          obtain ⟨e0, e1, -, -⟩ := hbox_at wr y
          have HE := hidIt (And.intro e0 e1)
          clear e0 e1
          go_upto_region 12 with (fail)
          clear d0 d1 d2 d3
          generalize wr.alloc (.cells #[.int .i64 y.f, .int .i64 y.t, .int .i64 y.a, .string y.ty] 55) = w4 at *
          have PP := hidIt (PW.out _ HB2.out)
          have r3 := cell_row PP.out.row 3 rfl
          have hcv : (h.map (fun y => findZ l y.a))[k]? = some (findZ l y.a) := by rw [List.getElem?_map, hy]; rfl
          have r5 := cell_row PP.out.ct k (v := .int .i64 (findZ l y.a)) (by rw [List.getElem?_toArray]; unfold ncells; rw [List.getElem?_map, hcv]; rfl)
          have hfz := findZ_lt l y.a
          have e0 := HE.out.1
          have e1 := HE.out.2
          have x0 := (SX.out _ HB2.out).1
          have HLV := hidIt (fun h0 => PP.out.live (m := findZ l y.a) h0 hfz.2)
          clear hcv hy HE
          have HO2 : Hid (orH l s x.pl (h.drop (k + 1)) (if ovT l x.pl y = true then a ||| getS s (findZ l y.a) else a) = Z) := HO.out
          unfold ovT at HO2
          generalize findZ l y.a = F at *
          by_cases h0 : 0 ≤ F
          · rw [decide_eq_true h0] at HO2
            by_cases h1 : y.f ≤ x.pl
            · rw [decide_eq_true h1] at HO2
              by_cases h2 : x.pl < y.t
              · rw [decide_eq_true h2] at HO2
                have r4 := cell_row PP.out.row 4 rfl
                have c4 := HLV.out h0
                have hFl : F < (l.length : Int) := hfz.2
                obtain ⟨f, rfl⟩ := Int.eq_ofNat_of_zero_le h0
                rw [Int.toNat_natCast] at c4
                go_wp2_with fail
                exact ⟨⟨k + 1, a ||| getS s (f : Int), by omega, by go_num, by rw [bits_or], HO2.out, HB2.out⟩, by simp [intOf]; omega⟩
              · rw [decide_eq_false h2] at HO2
                go_wp2_with fail
                exact ⟨⟨k + 1, a, by omega, by go_num, rfl, HO2.out, HB2.out⟩, by simp [intOf]; omega⟩
            · rw [decide_eq_false h1] at HO2
              have h1d : decide (y.f ≤ x.pl) = false := decide_eq_false h1
              go_wp2_with fail
              exact ⟨⟨k + 1, a, by omega, by go_num, rfl, HO2.out, HB2.out⟩, by simp [intOf]; omega⟩
          · rw [decide_eq_false h0] at HO2
            go_wp2_with fail
            exact ⟨⟨k + 1, a, by omega, by go_num, rfl, HO2.out, HB2.out⟩, by simp [intOf]; omega⟩
        · have hlt' : ¬ (k : Int) < (h.length : Int) := by omega
          obtain rfl : k = h.length := by omega
          rw [List.drop_length] at HO
          have e : a = Z := HO.out
          subst e
          go_wp2_with fail
          go_ret
          exact ⟨rfl, HA.out.trans (HB.out.mono HA.out.size)⟩
end Go.Proofs.Ytlnapfeglbdecaa
namespace Go.Proofs.Ytlnapfeglbdecaa
open Go.RowKit

theorem meas_step {l : List IN} {h : List HN} {s : List (BitVec 16)} {n : Nat} {x : IN} (p : Inc l h s) (hx : l[n]? = some x) (hne : ahZ l h s n x ≠ getS s (n : Int)) : meas (s.set n (ahZ l h s n x)) < meas s := by
  have hn : n < s.length := by rw [p.len]; exact (List.getElem?_eq_some_iff.1 hx).1
  have hg : s[n]? = some (getS s (n : Int)) := by unfold getS; rw [Int.toNat_natCast, List.getElem?_eq_getElem hn]; rfl
  exact meas_set s n _ _ hg ((p.up n x hx).lt hne)
set_option maxRecDepth 8000 in
set_option maxHeartbeats 4000000 in
theorem grow_any {B : World} {gg gn gc gs : Nat} {vl vh : Value} {l : List IN} {h : List HN} {s0 : List (BitVec 16)} (w : World) (p : Gr B gg gn gc gs vl vh l h s0 w) (hi : Inc l h s0) (hlen : l.length ≤ 4611686018427387904) :
    Calls Try.prog 22 #[.pointer (some ⟨gg, 0, none⟩)] w fun e w' => e = .returned (.tuple #[]) ∧ ∃ s, Gr B gg gn gc gs vl vh l h s w' ∧ LiveIs l h s := by
  have GA := hidIt (fun (s : List (BitVec 16)) (n : Nat) (x : IN) (hx : l[n]? = some x) W (q : Gr B gg gn gc gs vl vh l h s W) => ahead_any n x hx W q)
  have P0 := hidIt p
  have I0 := hidIt hi
  have hv := p.il
  obtain ⟨ao, cap, rfl, -⟩ := hv
  clear p hi
  go_enter Try.func22, Try.ntmps22
  go_wp2_with fail
  go_step3
  go_wp2_with fail
  try go_step3
  go_wp2_with fail
  go_loopg [2, 3, 4] (meas s0) (fun gk still _ _ wr => ∃ (s : List (BitVec 16)) (t : Nat), still = .int .i64 (t : Int) ∧ Gr B gg gn gc gs (.slice ao l.length cap) vh l h s wr ∧ Inc l h s ∧ Still l h s l.length t ∧ (0 < l.length → t < l.length) ∧ meas s ≤ gk)
  case atStart => exact ⟨s0, 0, rfl, P0.out, I0.out, Still.zero _ _ _ _, fun h => h, Nat.le_refl _⟩
  case round =>
    clear P0 I0
    obtain ⟨s, t, rfl, hp, hi, hs, ht, hg⟩ := hrel
    have HP := hidIt hp
    have HI := hidIt hi
    have HS := hidIt hs
    have HG := hidIt hg
    clear hp hi hs hg
    have r0 := cell_row HP.out.row 0 rfl
    by_cases h0 : 0 < l.length
    · have h0' : (0 : Int) < (l.length : Int) := by omega
      have ht2 := ht h0
      clear ht
      go_wp2_with fail
      clear r0
      have HPB : Hid (meas s ≤ meas s ∧ (meas s < meas s ∨ (s = s ∧ t = t + (l.length - l.length)))) := ⟨Nat.le_refl _, .inr ⟨rfl, by omega⟩⟩
      obtain ⟨W, hW⟩ : ∃ W, W = wr := ⟨wr, rfl⟩
      subst hW
      go_loopw [2, 3, 4] (fun still nn _ wr => ∃ (n : Nat) (s' : List (BitVec 16)) (t' : Nat), n ≤ l.length ∧ nn = .int .i64 ((n : Int) - 1) ∧ still = .int .i64 (t' : Int) ∧ Gr B gg gn gc gs (.slice ao l.length cap) vh l h s' wr ∧ Inc l h s' ∧ Still l h s' n t' ∧ t' < l.length ∧ (meas s' ≤ meas s ∧ (meas s' < meas s ∨ (s' = s ∧ t' = t + (l.length - n))))) (fun _ nn _ _ => (intOf nn + 1).toNat)
      case atStart => exact ⟨l.length, s, t, Nat.le_refl _, by go_num, rfl, HP.out, HI.out, HS.out, ht2, HPB.out⟩
      case round =>
        clear HP HI HS HPB ht2
        obtain ⟨n, s', t', hn, rfl, rfl, hp, hi, hs, ht3, hm⟩ := hrel
        have HP := hidIt hp
        have HI := hidIt hi
        have HS := hidIt hs
        have HM := hidIt hm
        clear hp hi hs hm
        by_cases hlt : 0 < n
        · obtain ⟨n1, rfl⟩ : ∃ n1, n = n1 + 1 := ⟨n - 1, by omega⟩
          have en : (((n1 + 1 : Nat) : Int) - 1) = (n1 : Int) := by omega
          rw [en]
          obtain ⟨x, hx⟩ : ∃ x, l[n1]? = some x := ⟨l[n1], List.getElem?_eq_getElem (by omega)⟩
          have GA1 := hidIt (GA.out s' n1 x hx _ HP.out)
          have HX := hidIt hx
          clear hx
          have hn0 : (0 : Int) ≤ (n1 : Int) := by omega
          go_upto_region 6 with (go_at_call 35; refine GA1.out.mono ?_; rintro e w2 ⟨rfl, b2⟩; have HP2 := hidIt (HP.out.below b2); clear HP b2 GA1)
          have r4 := cell_row HP2.out.row 4 rfl
          have c4 := HP2.out.live (m := (n1 : Int)) hn0 (by omega)
          rw [Int.toNat_natCast] at c4
          have hnl : (n1 : Int) < (l.length : Int) := by omega
          by_cases heq : ahZ l h s' n1 x = getS s' (n1 : Int)
          · have HF : Hid (Fx l h s' n1) := fun y hy => by
              rw [HX.out] at hy
              cases hy
              exact heq
            rw [heq]
            have q1 : (su (getS s' (n1 : Int)) != su (getS s' (n1 : Int))) = false := by simp
            have HS2 := hidIt (HS.out.more HF.out (by omega))
            have HP3 := HP2
            have r0 := cell_row HP2.out.row 0 rfl
            generalize su (getS s' (n1 : Int)) = q at *
            by_cases hfull : t' + 1 = l.length
            · have e1 : ((t' : Int) + 1 == (l.length : Int)) = true := by rw [beq_iff_eq]; omega
              rw [hfull] at HS2
              have HL : Hid (LiveIs l h s') := ⟨HI.out, HS2.out.all (by omega)⟩
              clear HS2 HS
              go_wp2_with fail
              unfold Exit.noGoto
              dsimp only
              go_end0
              exact ⟨rfl, s', HP3.out, HL.out⟩
            · have e1 : ((t' : Int) + 1 == (l.length : Int)) = false := by rw [beq_eq_false_iff_ne]; omega
              go_wp2_with fail
              refine ⟨⟨n1, s', t' + 1, by omega, by go_num, by go_num, HP3.out, HI.out, HS2.out, by omega, HM.out.1, ?_⟩, by simp [intOf] <;> omega⟩
              rcases HM.out.2 with h1 | ⟨h1, h2⟩
              · exact .inl h1
              · exact .inr ⟨h1, by omega⟩
          · have q1 : (su (ahZ l h s' n1 x) != su (getS s' (n1 : Int))) = true := by rw [su_ne, decide_eq_true heq]
            have HI2 := hidIt (HI.out.step HX.out)
            have HM2 := hidIt (meas_step HI.out HX.out heq)
            have HP3 := hidIt (HP2.out.set n1 (ahZ l h s' n1 x))
            have hf := frozen_row HP2.out.sv n1
            generalize ahZ l h s' n1 x = A at *
            go_wp2_with fail
            refine ⟨⟨n1, s'.set n1 A, 0, by omega, by go_num, rfl, HP3.out, HI2.out, Still.zero _ _ _ _, h0, ?_, .inl ?_⟩, by simp [intOf] <;> omega⟩
            · have := HM.out.1; have := HM2.out; omega
            · have := HM.out.1; have := HM2.out; omega
        · obtain rfl : n = 0 := by omega
          have HK : Hid (meas s' < meas s) := by
            rcases HM.out.2 with h1 | ⟨_, h2⟩
            · exact h1
            · omega
          have HS2 := hidIt HS.out.round
          go_wp2_with fail
          go_roundg (meas s')
          case measure => have := HG.out; have := HK.out; omega
          case rel => exact ⟨s', t', rfl, HP.out, HI.out, HS2.out, fun _ => ht3, Nat.le_refl _⟩
    · have h0' : ¬ (0 : Int) < (l.length : Int) := by omega
      have HL : Hid (LiveIs l h s) := ⟨HI.out, fun j x hx => by have := (List.getElem?_eq_some_iff.1 hx).1; omega⟩
      go_wp2_with fail
      go_end0
      exact ⟨rfl, s, HP.out, HL.out⟩
end Go.Proofs.Ytlnapfeglbdecaa
namespace Go.Proofs.Ytlnapfeglbdecaa


section
variable {P : Program} {ops : Array Oper} {Q : Exit → Act → World → Prop} {md : Region.Mode} {S : World → Prop} {j : Nat}

def UpL (P : Program) (md : Region.Mode) (ops : Array Oper) (Q : Exit → Act → World → Prop) (S : World → Prop) (j : Nat) : Nat → Array Bool → Act → World → Prop
  | 0, l, a, w => Region.ready md ops l = [] ∧ Q .normal a w
  | n + 1, l, a, w => (Region.ready md ops l = [] → Q .normal a w) ∧ ∀ i ∈ Region.ready md ops l, wpOp P ops Q i (fun a' w' => ((l.setIfInBounds i true).getD j true = false → S w') ∧ UpL P md ops Q S j n (l.setIfInBounds i true) a' w') a w
theorem UpL.any : ∀ (n : Nat) (l : Array Bool) (a : Act) (w : World), UpL P md ops Q S j n l a w → wpAny P md ops Q n l a w
  | 0, _, _, _, h => h
  | n + 1, _, _, _, h => ⟨h.1, fun i hi => wpOp_mono (fun a' w' h' => UpL.any n _ a' w' h'.2) (h.2 i hi)⟩
theorem UpL.first {i : Nat} {oi : Oper} {v : Value} (hi : ops[i]? = some oi) (hsel : ∀ (j : Nat) (o : Oper) cs b, ops[j]? = some o → o.op ≠ .select cs b) (hQ : ∀ c a w, Q (.panic c) (a.put oi.dst v) w → Q (.panic c) a w)
    (hij : i ≠ j) {T : World → Prop} (hT : (∀ w, T w) ∨ ((∀ w, S w → T w) ∧ ∃ oj, ops[j]? = some oj ∧ ∃ e ∈ oj.after, Region.binds md e = true ∧ e.on = i)) :
    ∀ (n : Nat) (l : Array Bool) (a : Act) (w : World), (∀ k ok, ops[k]? = some ok → k ≠ i → l.getD k true = false → (∀ e ∈ ok.after, Region.binds md e = true → e.on ≠ i) → oi.apart ops ok = true) →
      i ∈ Region.ready md ops l → YieldsIf P ops T oi v a → T w → (l.getD j true = false → S w) → ((∀ w, T w) ∨ l.getD j true = false) → UpL P md ops Q S j n (l.setIfInBounds i true) (a.put oi.dst v) w → UpL P md ops Q S j (n + 1) l a w := by
  intro n
  induction n with
  | zero =>
    intro l a w _ hr hy hTw hS _ H
    refine ⟨fun h => (by rw [h] at hr; cases hr), fun k hk => ?_⟩
    by_cases hki : k = i
    · subst hki; exact hy.wpOp hi hTw ⟨fun h => hS (by rwa [getD_set_ne true hij] at h), H⟩
    · have := ready_mono hk hki
      rw [H.1] at this
      cases this
  | succ n ih =>
    intro l a w hfree hr hy hTw hS hlj H
    refine ⟨fun h => (by rw [h] at hr; cases hr), fun k hk => ?_⟩
    by_cases hki : k = i
    · subst hki; exact hy.wpOp hi hTw ⟨fun h => hS (by rwa [getD_set_ne true hij] at h), H⟩
    · have h1 := H.2 k (ready_mono hk hki)
      obtain ⟨hkun, ok, hok, hall⟩ := mem_ready.1 hk
      have hun : ∀ x : Nat, x = i → ¬ l.getD x false = true := fun x heq h1 => by
        have h0 := (mem_ready.1 hr).1
        rw [heq] at h1
        rcases Nat.lt_or_ge i l.size with h' | h'
        · simp [h'] at h0 h1; rw [h0] at h1; cases h1
        · simp [Array.getElem?_eq_none h'] at h1
      have hnot : ∀ e ∈ ok.after, Region.binds md e = true → e.on ≠ i := fun e he hb heq => hun e.on heq (hall e he hb)
      have h2 := wpOp_putIf hok (hfree k ok hok hki hkun hnot) (fun cs b => hsel i oi cs b hi) (fun cs b => hsel k ok cs b hok) hQ hy h1
      have hfree' : ∀ m om, ops[m]? = some om → m ≠ i → (l.setIfInBounds k true).getD m true = false → (∀ e ∈ om.after, Region.binds md e = true → e.on ≠ i) → oi.apart ops om = true := fun m om hm hmi hum hno => by
        refine hfree m om hm hmi ?_ hno
        by_cases hkm : k = m
        · subst hkm; exact hkun
        · rw [getD_set_ne true hkm] at hum; exact hum
      refine wpOp_mono (fun a' w' h3 => ?_) h2
      have e0 : ((l.setIfInBounds i true).setIfInBounds k true).getD j true = (l.setIfInBounds k true).getD j true := by
        rw [← Array.setIfInBounds_comm _ _ hki, getD_set_ne true hij]
      have hS' : (l.setIfInBounds k true).getD j true = false → S w' := fun h => h3.2.1 (by rw [e0]; exact h)
      have hlj' : (∀ w, T w) ∨ (l.setIfInBounds k true).getD j true = false := by
        rcases hlj with h | h
        · exact .inl h
        · rcases hT with hT | ⟨_, oj, hoj, e, he, hb, heq⟩
          · exact .inl hT
          · by_cases hkj : k = j
            · subst hkj
              rw [hoj] at hok
              cases hok
              exact absurd heq (hnot e he hb)
            · exact .inr (by rw [getD_set_ne true hkj]; exact h)
      have hT' : T w' := by
        rcases hlj' with h | h
        · exact h w'
        · rcases hT with hT | hT
          · exact hT w'
          · exact hT.1 w' (hS' h)
      refine ⟨hS', ih (l.setIfInBounds k true) a' w' hfree' (ready_mono hr (Ne.symm hki)) h3.1 hT' hS' hlj' ?_⟩
      rw [Array.setIfInBounds_comm _ _ hki]
      exact h3.2.2
end
section
variable {P : Program} {l0 : List Oper} {Q : Exit → Act → World → Prop} {md : Region.Mode} {S : World → Prop} {j n : Nat} {ls : Array Bool} {a : Act} {w : World}
def waits (md : Region.Mode) (l0 : List Oper) (j i : Nat) : Bool := match l0[j]? with | some o => o.after.any (fun e => Region.binds md e && e.on == i) | none => false
end
end Go.Proofs.Ytlnapfeglbdecaa
