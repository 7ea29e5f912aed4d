/- readEntry: walked. -/
import Derived.Test.YthagaldpopnoeaaGreatDoorPR
import Derived.Handy
import Derived.WalkMore
import Derived.Deep.CutRange
namespace Go.Proofs.YthagaldpopnoeaaGreatDoor
open Go.RowKit

theorem enc_le (r : Int) : (Lib.encodeRuneZ r).length ≤ 4 := by
  unfold Lib.encodeRuneZ
  repeat' split
  all_goals simp
theorem dec_len : ∀ (f : Nat) (l xs : List Int), decFrom f l = some xs → xs.length ≤ 4 * f := by
  intro f
  induction f with
  | zero =>
    intro l xs h
    cases l with
    | nil => simp [decFrom] at h; subst h; simp
    | cons x t => simp [decFrom] at h
  | succ f ih =>
    intro l xs h
    cases l with
    | nil => simp [decFrom] at h; subst h; simp
    | cons x t =>
      unfold decFrom at h
      split at h
      · cases h
      · simp only [Option.map_eq_some_iff] at h
        obtain ⟨ys, hy, rfl⟩ := h
        have := ih _ _ hy
        have := enc_le (frune (x :: t)).1
        rw [List.length_append]; omega
theorem rtext_small (l : List Int) (a : Nat) (y : Int) (hb : AllBytes l) : (rtext l a y).1.size ≤ 262140 := by
  have hbv := beVal_two (tk l a y 2).1 (tk_bytes _ _ _ _ hb) (by have := (tk_len l a y 2).1; omega)
  unfold rtext
  simp only
  split
  · rename_i xs hx
    have h1 := dec_len _ _ _ hx
    have h2 := (tk_len l (tk l a y 2).2.1 (if 256 < beVal (tk l a y 2).1 then fl (tk l a y 2).2.2 3 else (tk l a y 2).2.2) (beVal (tk l a y 2).1)).1
    have h3 : (strOfNums xs).size = xs.length := by rw [Lib.size_eq]; simp [strOfNums]
    simp only
    rw [h3]; omega
  · show (ByteArray.mk #[]).size ≤ _
    decide
theorem rT_small (l : List Int) (hb : AllBytes l) : ∀ k a y, ∀ s ∈ (rT l k a y).1, s.size ≤ 262140
  | 0, _, _ => by simp [rT]
  | k + 1, a, y => by
    intro s hs
    simp only [rT] at hs
    rcases List.mem_append.1 hs with h | h
    · exact rT_small l hb k a y s h
    · simp at h; subst h; exact rtext_small l _ _ hb
theorem tx_small {ts : List ByteArray} (h : ∀ s ∈ ts, s.size ≤ 262140) (i : Nat) : (tx ts i).size ≤ 262140 := by
  unfold tx
  cases hi : ts[i]? with
  | none => show (ByteArray.mk #[]).size ≤ _; decide
  | some s => exact h s (List.mem_of_getElem? hi)
theorem mkC_fits {kind n : Int} {ts : List ByteArray} (h : ∀ s ∈ ts, s.size ≤ 262140) : (mkC kind n ts).Fits :=
  ⟨by have := tx_small h 0; unfold tx at this; show ((ts[0]?).getD eS).size ≤ _; omega, by have := tx_small h 1; unfold tx at this; show ((ts[1]?).getD eS).size ≤ _; omega, by have := tx_small h 2; unfold tx at this; show ((ts[2]?).getD eS).size ≤ _; omega⟩

/-- The block of the constant that is read: its kind, its number, the texts so far. -/
def cblk (kind n : Int) (ts : List ByteArray) : Obj := .cells #[.int .i64 kind, .int .i32 n, .string (tx ts 0), .string (tx ts 1), .string (tx ts 2)] 85 (0, 0)
theorem run_ptrs (wx : World) (p n : Nat) (hn : n ≤ 3) : (Instr.sliceAt 201 (.pointer (some ⟨p, 0, none⟩)) none (some (.int .i64 (n : Int))) none).run Tryz.prog wx = .ok (.slice (some ⟨p, 0, none⟩) n 3) wx := by
  match n, hn with
  | 0, _ => go_simp
  | 1, _ => go_simp
  | 2, _ => go_simp
  | 3, _ => go_simp
  | k + 4, h => omega
theorem tx_snoc (ts : List ByteArray) (s : ByteArray) (i : Nat) : tx (ts ++ [s]) i = if i = ts.length then s else tx ts i := by
  unfold tx
  by_cases h : i < ts.length
  · rw [List.getElem?_append_left h, if_neg (by omega)]
  · rw [List.getElem?_append_right (by omega)]
    by_cases e : i = ts.length
    · subst e; simp
    · rw [if_neg e, List.getElem?_eq_none (l := ts) (by omega), List.getElem?_eq_none (by simp; omega)]
/-- A text is put into the constant. -/
theorem cblk_put {w : World} {pc : Nat} {kind n : Int} {ts : List ByteArray} {s : ByteArray} (h : w.heap[pc]? = some (cblk kind n ts)) (hk : ts.length < 3) : (w.setCell ⟨pc, 2 + ts.length, none⟩ (.string s)).heap[pc]? = some (cblk kind n (ts ++ [s])) := by
  unfold cblk at *
  rw [gset_row h]
  match hl : ts.length, hk with
  | 0, _ => simp [tx_snoc, hl]
  | 1, _ => simp [tx_snoc, hl]
  | 2, _ => simp [tx_snoc, hl]
  | k + 3, h => omega

theorem put5R {pr g : Nat} {w0 w : World} {v : Value} {l : List Int} {a0 a : Nat} {y0 y : Int} (b0 b1 b2 b3 b4 : Value) (h0 : IsR pr w0 v l a0 y0) (ho : Only pr w0 w) (h : IsR pr w v l a y) (hp : w0.heap.size ≤ g) :
    IsR pr (((((w.setCell ⟨g, 0, none⟩ b0).setCell ⟨g, 1, none⟩ b1).setCell ⟨g, 2, none⟩ b2).setCell ⟨g, 3, none⟩ b3).setCell ⟨g, 4, none⟩ b4) v l a y ∧ Only pr w0 (((((w.setCell ⟨g, 0, none⟩ b0).setCell ⟨g, 1, none⟩ b1).setCell ⟨g, 2, none⟩ b2).setCell ⟨g, 3, none⟩ b3).setCell ⟨g, 4, none⟩ b4) := by
  have r1 := h0.put (o := 0) (u := b0) ho h hp
  have o1 := ho.put (o := 0) (u := b0) hp
  have r2 := h0.put (o := 1) (u := b1) o1 r1 hp
  have o2 := o1.put (o := 1) (u := b1) hp
  have r3 := h0.put (o := 2) (u := b2) o2 r2 hp
  have o3 := o2.put (o := 2) (u := b2) hp
  have r4 := h0.put (o := 3) (u := b3) o3 r3 hp
  have o4 := o3.put (o := 3) (u := b3) hp
  exact ⟨h0.put (o := 4) (u := b4) o4 r4 hp, o4.put (o := 4) (u := b4) hp⟩

/-- What of a block is known when its cells are. -/
theorem blk5 {w : World} {g : Nat} {b0 b1 b2 b3 b4 : Value} (h : w.heap[g]? = some (.cells #[b0, b1, b2, b3, b4] 85 (0, 0))) :
    w.cell? ⟨g, 0, none⟩ = some b0 ∧ w.cell? ⟨g, 1, none⟩ = some b1 ∧ w.cell? ⟨g, 2, none⟩ = some b2 ∧ w.cell? ⟨g, 3, none⟩ = some b3 ∧ w.cell? ⟨g, 4, none⟩ = some b4 ∧ ∀ x, w.frozen? ⟨g, x, none⟩ = false := by
  refine ⟨?_, ?_, ?_, ?_, ?_, fun x => frozen_row h x⟩
  all_goals rw [cell_of_row _ _ _ _ 85 (0, 0) h]; rfl

theorem set5 {w : World} {g : Nat} {b0 b1 b2 b3 b4 : Value} (v0 v1 v2 v3 v4 : Value) (h : w.heap[g]? = some (.cells #[b0, b1, b2, b3, b4] 85 (0, 0))) :
    (((((w.setCell ⟨g, 0, none⟩ v0).setCell ⟨g, 1, none⟩ v1).setCell ⟨g, 2, none⟩ v2).setCell ⟨g, 3, none⟩ v3).setCell ⟨g, 4, none⟩ v4).heap[g]? = some (.cells #[v0, v1, v2, v3, v4] 85 (0, 0)) := by
  rw [gset_row (gset_row (gset_row (gset_row (gset_row h))))]; rfl
theorem wrap32_eq (n : Int) : wrap32 n = IntKind.i32.wrap n := by rw [IntKind.wrap_i32]; unfold wrap32; omega
theorem rd_bad {l : List Int} {a : Nat} {y : Int} (h : textsB (beVal (tk l a y 1).1) = false) : rdC l a y = mkC (beVal (tk l a y 1).1) 0 [] ∧ rdE l a y = ((tk l a y 1).2.1, fl (tk l a y 1).2.2 12) := by
  unfold rdC rdE
  rw [h]
  exact ⟨if_neg (by simp), if_neg (by simp)⟩
theorem rd_good {l : List Int} {a : Nat} {y : Int} (N : Int) (a2 : Nat) (y2 : Int) (h : textsB (beVal (tk l a y 1).1) = true) (hn : rdN l a y = (N, a2, y2)) :
    rdC l a y = mkC (beVal (tk l a y 1).1) N (rT l (textsN (beVal (tk l a y 1).1)) a2 y2).1 ∧
    rdE l a y = ((rT l (textsN (beVal (tk l a y 1).1)) a2 y2).2.1, if rightB (mkC (beVal (tk l a y 1).1) N (rT l (textsN (beVal (tk l a y 1).1)) a2 y2).1) = true then (rT l (textsN (beVal (tk l a y 1).1)) a2 y2).2.2 else fl (rT l (textsN (beVal (tk l a y 1).1)) a2 y2).2.2 14) := by
  have e : rdC l a y = mkC (beVal (tk l a y 1).1) N (rT l (textsN (beVal (tk l a y 1).1)) a2 y2).1 := by
    unfold rdC rdT
    rw [if_pos h, hn]
  refine ⟨e, ?_⟩
  unfold rdE
  rw [if_pos h, e]
  unfold rdT
  rw [hn]

set_option maxRecDepth 8000 in
set_option maxHeartbeats 4000000 in
theorem rentry_any (pr : Nat) (v : Value) (l : List Int) (a : Nat) (y : Int) (w : World) (h : IsR pr w v l a y) :
    Calls Tryz.prog 110 #[.pointer (some ⟨pr, 0, none⟩)] w fun e w' => e = .returned (rdC l a y).val ∧ IsR pr w' v l (rdE l a y).1 (rdE l a y).2 ∧ Only pr w w' := by
  have hby : AllBytes l := by obtain ⟨_, _, _, _, _, h, _⟩ := h.view; exact h
  have hlt := h.lt
  have b0 : Below w.heap.size w (w.alloc (.cells #[.int .i64 0, .int .i32 0, .string ⟨#[]⟩, .string ⟨#[]⟩, .string ⟨#[]⟩] 85)) := (Below.refl _ _).alloc (Nat.le_refl _) _
  have z0 : (w.alloc (.cells #[.int .i64 0, .int .i32 0, .string ⟨#[]⟩, .string ⟨#[]⟩, .string ⟨#[]⟩] 85)).heap.size = w.heap.size + 1 := by simp
  have k0 := heap_alloc_new w (.cells #[.int .i64 0, .int .i32 0, .string ⟨#[]⟩, .string ⟨#[]⟩, .string ⟨#[]⟩] 85)
  have oW : Only pr w (w.alloc (.cells #[.int .i64 0, .int .i32 0, .string ⟨#[]⟩, .string ⟨#[]⟩, .string ⟨#[]⟩] 85)) := Only.of_below b0
  have H1 := D.hidIt (rnum1 pr v l a y _ (h.below b0))
  have HB := D.hidIt (rd_bad (l := l) (a := a) (y := y))
  have HG := D.hidIt (rd_good (l := l) (a := a) (y := y))
  have HN0 : Hid (textsN (beVal (tk l a y 1).1) = 0 → rdN l a y = (IntKind.i32.wrap (beVal (tk l (tk l a y 1).2.1 (tk l a y 1).2.2 4).1), (tk l (tk l a y 1).2.1 (tk l a y 1).2.2 4).2.1, (tk l (tk l a y 1).2.1 (tk l a y 1).2.2 4).2.2)) := fun h => by unfold rdN; rw [if_pos h]
  have HN1 : Hid (textsN (beVal (tk l a y 1).1) ≠ 0 → rdN l a y = (0, (tk l a y 1).2.1, (tk l a y 1).2.2)) := fun h => by unfold rdN; rw [if_neg h]
  generalize rdC l a y = RC at *
  generalize rdE l a y = RE at *
  generalize rdN l a y = RN at *
  generalize tk l a y 1 = T1 at *
  obtain ⟨bs, a1, y1⟩ := T1
  simp only at H1 HB HG HN0 HN1
  generalize beVal bs = K at *
  have HX := fun w => D.hidIt (texts_any K w)
  have hn3 : textsN K ≤ 3 := by
    unfold textsN
    split
    · omega
    · split <;> omega
  go_enter Tryz.func110, Tryz.ntmps110
  go_wp2_with fail
  generalize hW0 : w.alloc (.cells #[.int .i64 0, .int .i32 0, .string ⟨#[]⟩, .string ⟨#[]⟩, .string ⟨#[]⟩] 85) = W0 at *
  refine H1.out.mono ?_
  rintro e w2 ⟨rfl, r2, o2⟩
  have z2 := o2.size
  rw [z0] at z2
  have k2 := (o2.block w.heap.size (by omega) (by omega)).trans k0
  have p3 := heap_alloc_new w2 (.cells #[.int .i64 K, .int .i32 0, .string ⟨#[]⟩, .string ⟨#[]⟩, .string ⟨#[]⟩] 85)
  have b3 : Below w2.heap.size w2 (w2.alloc (.cells #[.int .i64 K, .int .i32 0, .string ⟨#[]⟩, .string ⟨#[]⟩, .string ⟨#[]⟩] 85)) := (Below.refl _ _).alloc (Nat.le_refl _) _
  have r3 := r2.below b3
  have o3 : Only pr W0 (w2.alloc (.cells #[.int .i64 K, .int .i32 0, .string ⟨#[]⟩, .string ⟨#[]⟩, .string ⟨#[]⟩] 85)) := o2.trans (Only.of_below b3)
  have k3 := (b3.block w.heap.size (by omega)).trans k2
  have z3 : (w2.alloc (.cells #[.int .i64 K, .int .i32 0, .string ⟨#[]⟩, .string ⟨#[]⟩, .string ⟨#[]⟩] 85)).heap.size = w2.heap.size + 1 := by simp
  go_wp2_with fail
  generalize hW3 : w2.alloc (.cells #[.int .i64 K, .int .i32 0, .string ⟨#[]⟩, .string ⟨#[]⟩, .string ⟨#[]⟩] 85) = W3 at *
  refine (HX _).out.mono ?_
  rintro e w' ⟨rfl, hww⟩; cases hww
  have ow3 := oW.trans o3
  cases hb : textsB K with
  | false =>
    have HBB := D.hidIt (HB.out hb)
    clear HB HG HN0 HN1
    go_wp2_with fail
    refine (fail_any pr v l a1 y1 12 W3 r3).mono ?_
    rintro e w4 ⟨rfl, r4, o4⟩
    have k4 := (o4.block w.heap.size (by omega) (by omega)).trans k3
    have p4 := (o4.block w2.heap.size (by omega) (by omega)).trans p3
    obtain ⟨c0, c1, c2, c3, c4, cf⟩ := blk5 k4
    obtain ⟨d0, d1, d2, d3, d4, df⟩ := blk5 p4
    have FIN := put5R (g := w.heap.size) (.int .i64 K) (.int .i32 0) (.string ⟨#[]⟩) (.string ⟨#[]⟩) (.string ⟨#[]⟩) h (ow3.trans o4) r4 (Nat.le_refl _)
    have HF := D.hidIt FIN
    have H5 := D.hidIt (set5 (.int .i64 K) (.int .i32 0) (.string ⟨#[]⟩) (.string ⟨#[]⟩) (.string ⟨#[]⟩) k4)
    clear FIN
    go_wp2
    refine bodyPost_ret (results_cell_row rfl _ _ w.heap.size 85 _ (0, 0) _ rfl H5.out Tryz.underlying85 rfl (by kernel_rfl)) rfl ?_
    rw [HBB.out.1, HBB.out.2]
    exact ⟨rfl, HF.out.1, HF.out.2⟩
  | true =>
    have HGG := D.hidIt (fun N a2 y2 => HG.out N a2 y2 hb)
    clear HB HG
    generalize hn : textsN K = n at *
    have P3 : W3.heap[w2.heap.size]? = some (cblk K 0 []) := p3
    go_upto_if 24 with fail
    go_cut [] from 25 to 28 (fun wx => ∃ N a2 y2, IsR pr wx v l a2 y2 ∧ Only pr W0 wx ∧ wx.heap[w2.heap.size]? = some (cblk K N []) ∧ Hid (RN = (N, a2, y2)))
    case first =>
      by_cases h0 : n = 0
      · have HNN := D.hidIt (HN0.out h0)
        subst h0
        have H4 := D.hidIt (rnum4 pr v l a1 y1 W3 r3)
        generalize tk l a1 y1 4 = T4 at *
        obtain ⟨bs4, a4, y4⟩ := T4
        simp only at H4 HNN
        go_wp2_with fail
        refine H4.out.mono ?_
        rintro e w4 ⟨rfl, r4, o4⟩
        have p4 := (o4.block w2.heap.size (by omega) (by omega)).trans p3
        have o04 := o3.trans o4
        obtain ⟨d0, d1, d2, d3, d4, df⟩ := blk5 p4
        have HR4 := D.hidIt (h.put (pc := w2.heap.size) (o := 1) (u := .int .i32 (IntKind.i32.wrap (beVal bs4))) (oW.trans o04) r4 (by omega))
        have HO4 := D.hidIt (o04.put (pc := w2.heap.size) (o := 1) (u := .int .i32 (IntKind.i32.wrap (beVal bs4))) (by omega))
        have HP4 : Hid ((w4.setCell ⟨w2.heap.size, 1, none⟩ (.int .i32 (IntKind.i32.wrap (beVal bs4)))).heap[w2.heap.size]? = some (cblk K (IntKind.i32.wrap (beVal bs4)) [])) := by
          show _ = _
          rw [gset_row p4]; rfl
        go_wp2
        go_meet
        rw [wrap32_eq]
        exact ⟨_, _, _, HR4.out, HO4.out, HP4.out, HNN.out⟩
      · have h0' : ((n : Int) == 0) = false := by simp; omega
        have HNN := D.hidIt (HN1.out h0)
        go_wp2
        go_meet
        exact ⟨_, _, _, r3, o3, P3, HNN.out⟩
    case rest =>
      obtain ⟨N, a2, y2, r5, o5, p5, HRN⟩ := hcut
      have HGF := D.hidIt (HGG.out N a2 y2 HRN.out)
      have z5 := o5.size
      clear HGG HN0 HN1 HRN H1 P3 p3 k3 r3 r2 k2 b3
      have hsl := fun wx p => run_ptrs wx p n hn3
      have b6 : Below wc.heap.size wc (wc.alloc (.cells #[.pointer (some ⟨w2.heap.size, 2, none⟩), .pointer (some ⟨w2.heap.size, 3, none⟩), .pointer (some ⟨w2.heap.size, 4, none⟩)] 201)) := (Below.refl _ _).alloc (Nat.le_refl _) _
      have g6 := heap_alloc_new wc (.cells #[.pointer (some ⟨w2.heap.size, 2, none⟩), .pointer (some ⟨w2.heap.size, 3, none⟩), .pointer (some ⟨w2.heap.size, 4, none⟩)] 201)
      have r6 := r5.below b6
      have o6 : Only pr W0 (wc.alloc (.cells #[.pointer (some ⟨w2.heap.size, 2, none⟩), .pointer (some ⟨w2.heap.size, 3, none⟩), .pointer (some ⟨w2.heap.size, 4, none⟩)] 201)) := o5.trans (Only.of_below b6)
      have hpc : w2.heap.size < wc.heap.size := (Array.getElem?_eq_some_iff.1 p5).1
      have p6 := (b6.block w2.heap.size hpc).trans p5
      go_wp2
      generalize hW6 : wc.alloc (.cells #[.pointer (some ⟨w2.heap.size, 2, none⟩), .pointer (some ⟨w2.heap.size, 3, none⟩), .pointer (some ⟨w2.heap.size, 4, none⟩)] 201) = W6 at *
      go_loopw [36] (fun i wr => ∃ (k : Nat), i = .int .i64 (k : Int) ∧ k ≤ n ∧ IsR pr wr v l (rT l k a2 y2).2.1 (rT l k a2 y2).2.2 ∧ Only pr W0 wr ∧ wr.heap[w2.heap.size]? = some (cblk K N (rT l k a2 y2).1) ∧ wr.heap[wc.heap.size]? = some (.cells #[.pointer (some ⟨w2.heap.size, 2, none⟩), .pointer (some ⟨w2.heap.size, 3, none⟩), .pointer (some ⟨w2.heap.size, 4, none⟩)] 201 (0, 0))) (fun i _ => n - (intOf i).toNat)
      case atStart => exact ⟨0, rfl, by omega, r6, o6, p6, g6⟩
      case round =>
        obtain ⟨k, rfl, hk, r7, o7, p7, g7⟩ := hrel
        by_cases hlt : k < n
        · have hlt' : (k : Int) < (n : Int) := by omega
          have hts := rT_len l k a2 y2
          have HNX : Hid (rT l (k + 1) a2 y2 = ((rT l k a2 y2).1 ++ [(rtext l (rT l k a2 y2).2.1 (rT l k a2 y2).2.2).1], (rtext l (rT l k a2 y2).2.1 (rT l k a2 y2).2.2).2.1, (rtext l (rT l k a2 y2).2.1 (rT l k a2 y2).2.2).2.2)) := rfl
          generalize rT l k a2 y2 = RT at *
          obtain ⟨ts, a7, y7⟩ := RT
          simp only at r7 p7 hts HNX
          have H8 := D.hidIt (rtext_any pr v l a7 y7 wr r7)
          generalize rtext l a7 y7 = X8 at *
          obtain ⟨s8, a8, y8⟩ := X8
          simp only at H8 HNX
          have hcell : wr.cell? ⟨wc.heap.size, k, none⟩ = some (.pointer (some ⟨w2.heap.size, 2 + k, none⟩)) := by
            have hk3 : k < 3 := by omega
            rw [cell_of_row wr _ k _ 201 (0, 0) g7]
            match k, hk3 with
            | 0, _ => rfl
            | 1, _ => rfl
            | 2, _ => rfl
            | k + 3, h => omega
          have hplt : w2.heap.size < wr.heap.size := (Array.getElem?_eq_some_iff.1 p7).1
          have hglt : wc.heap.size < wr.heap.size := (Array.getElem?_eq_some_iff.1 g7).1
          go_wp2_with fail
          refine H8.out.mono ?_
          rintro e w8 ⟨rfl, r8, o8⟩
          have p8 := (o8.block w2.heap.size hplt (by omega)).trans p7
          have g8 := (o8.block wc.heap.size hglt (by omega)).trans g7
          have o08 := o7.trans o8
          have hc8 : ∃ u, w8.cell? ⟨w2.heap.size, 2 + k, none⟩ = some u := by
            unfold cblk at p8
            rw [cell_of_row w8 _ (2 + k) _ 85 (0, 0) p8]
            have hk3 : k < 3 := by omega
            match k, hk3 with
            | 0, _ => exact ⟨_, rfl⟩
            | 1, _ => exact ⟨_, rfl⟩
            | 2, _ => exact ⟨_, rfl⟩
            | k + 3, h => omega
          obtain ⟨u8, hu8⟩ := hc8
          have hf8 : w8.frozen? ⟨w2.heap.size, 2 + k, none⟩ = false := frozen_row (by unfold cblk at p8; exact p8) _
          have HR9 := D.hidIt (h.put (pc := w2.heap.size) (o := 2 + k) (u := .string s8) (oW.trans o08) r8 (by omega))
          have HO9 := D.hidIt (o08.put (pc := w2.heap.size) (o := 2 + k) (u := .string s8) (by omega))
          have HP9 := D.hidIt (cblk_put (s := s8) p8 (by omega))
          rw [hts] at HP9
          have HG9 : Hid ((w8.setCell ⟨w2.heap.size, 2 + k, none⟩ (.string s8)).heap[wc.heap.size]? = some (.cells #[.pointer (some ⟨w2.heap.size, 2, none⟩), .pointer (some ⟨w2.heap.size, 3, none⟩), .pointer (some ⟨w2.heap.size, 4, none⟩)] 201 (0, 0))) := by
            show _ = _
            rw [Below.heap_setCell _ _ _ _ (fun e => by simp only at e; omega)]; exact g8
          clear p8 g8 r8 hts
          go_wp2
          refine ⟨⟨k + 1, by go_num, by omega, ?_, HO9.out, ?_, HG9.out⟩, by simp [intOf]; omega⟩
          · rw [HNX.out]; exact HR9.out
          · rw [HNX.out]; exact HP9.out
        · have hlt' : ¬ (k : Int) < (n : Int) := by omega
          obtain rfl : k = n := by omega
          have hsm := rT_small l hby k a2 y2
          generalize rT l k a2 y2 = RT at *
          obtain ⟨ts, a7, y7⟩ := RT
          simp only at r7 p7 hsm HGF
          have HRR := fun w => D.hidIt (right_any (mkC K N ts) w (mkC_fits hsm))
          have k7 : wr.heap[w.heap.size]? = some (.cells #[.int .i64 0, .int .i32 0, .string ⟨#[]⟩, .string ⟨#[]⟩, .string ⟨#[]⟩] 85 (0, 0)) := (o7.block w.heap.size (by omega) (by omega)).trans k0
          have hplt : w2.heap.size < wr.heap.size := (Array.getElem?_eq_some_iff.1 p7).1
          have zw7 : w.heap.size < wr.heap.size := (Array.getElem?_eq_some_iff.1 k7).1
          unfold cblk at p7
          obtain ⟨d0, d1, d2, d3, d4, df⟩ := blk5 p7
          have HV : Hid ((mkC K N ts).val = .agg #[.int .i64 K, .int .i32 N, .string (tx ts 0), .string (tx ts 1), .string (tx ts 2)]) := rfl
          rw [HV.out] at HRR
          generalize tx ts 0 = t0 at *
          generalize tx ts 1 = t1 at *
          generalize tx ts 2 = t2 at *
          cases hr : rightB (mkC K N ts) with
          | true =>
            rw [hr] at HRR
            have HRE := HGF.out.2
            rw [hr, if_pos rfl] at HRE
            have HRE' := D.hidIt HRE
            have HRC := D.hidIt HGF.out.1
            clear hr HGF HRE
            go_wp2_with fail
            refine (HRR _).out.mono ?_
            rintro e w8 ⟨rfl, b8⟩
            have k8 := (b8.block w.heap.size zw7).trans k7
            have p8 := (b8.block w2.heap.size hplt).trans p7
            have r8 := r7.below b8
            have o8 := (oW.trans o7).trans (Only.of_below b8)
            obtain ⟨c0, c1, c2, c3, c4, cf⟩ := blk5 k8
            clear d0 d1 d2 d3 d4 df
            obtain ⟨d0, d1, d2, d3, d4, df⟩ := blk5 p8
            have HF := D.hidIt (put5R (g := w.heap.size) (.int .i64 K) (.int .i32 N) (.string t0) (.string t1) (.string t2) h o8 r8 (Nat.le_refl _))
            have H5 := D.hidIt (set5 (.int .i64 K) (.int .i32 N) (.string t0) (.string t1) (.string t2) k8)
            go_wp2
            refine bodyPost_ret (results_cell_row rfl _ _ w.heap.size 85 _ (0, 0) _ rfl H5.out Tryz.underlying85 rfl (by kernel_rfl)) rfl ?_
            rw [HRC.out, HRE'.out, HV.out]
            exact ⟨rfl, HF.out.1, HF.out.2⟩
          | false =>
            rw [hr] at HRR
            have HRE := HGF.out.2
            rw [hr, if_neg (by simp)] at HRE
            have HRE' := D.hidIt HRE
            have HRC := D.hidIt HGF.out.1
            clear hr HGF HRE
            go_wp2_with fail
            refine (HRR _).out.mono ?_
            rintro e w8 ⟨rfl, b8⟩
            have k8 := (b8.block w.heap.size zw7).trans k7
            have p8 := (b8.block w2.heap.size hplt).trans p7
            have r8 := r7.below b8
            have z8 := b8.size
            go_wp2_with fail
            refine (fail_any pr v l a7 y7 14 w8 r8).mono ?_
            rintro e w9 ⟨rfl, r9, o9⟩
            have k9 := (o9.block w.heap.size (by omega) (by omega)).trans k8
            have p9 := (o9.block w2.heap.size (by omega) (by omega)).trans p8
            have o89 := ((oW.trans o7).trans (Only.of_below b8)).trans o9
            obtain ⟨c0, c1, c2, c3, c4, cf⟩ := blk5 k9
            clear d0 d1 d2 d3 d4 df
            obtain ⟨d0, d1, d2, d3, d4, df⟩ := blk5 p9
            have HF := D.hidIt (put5R (g := w.heap.size) (.int .i64 K) (.int .i32 N) (.string t0) (.string t1) (.string t2) h o89 r9 (Nat.le_refl _))
            have H5 := D.hidIt (set5 (.int .i64 K) (.int .i32 N) (.string t0) (.string t1) (.string t2) k9)
            go_wp2
            refine bodyPost_ret (results_cell_row rfl _ _ w.heap.size 85 _ (0, 0) _ rfl H5.out Tryz.underlying85 rfl (by kernel_rfl)) rfl ?_
            rw [HRC.out, HRE'.out, HV.out]
            exact ⟨rfl, HF.out.1, HF.out.2⟩
end Go.Proofs.YthagaldpopnoeaaGreatDoor
