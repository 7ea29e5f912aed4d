/- Texts KU KZ KO. -/
import Derived.Test.YtbmfkbgncjldjabGreatBu32
import Derived.Test.YtbmfkbgncjldjabGreatBu33
namespace Go.Proofs.YtbmfkbgncjldjabGreat.K
open Go.RowKit Q Q.D

theorem op_store_row {P : Program} {ops : Array Oper} {o : Oper} {a : Act} {w : World} {K : Act → World → Prop} {Q : Exit → Act → World → Prop} {E : Prop} (hgd : o.guard = none) (ty : TypeId) (x y : Operand) (ho : o.op = .store ty x y)
    (g : Nat) (cells : Array Value) (hx : a.eval x = .pointer (some ⟨g, 0, none⟩)) (hy : a.eval y = .agg cells)
    (t : TypeId) (old : Array Value) (hg : w.heap[g]? = some (.cells old t (0, 0))) (hi : (P.info? ty).map (·.size) = some cells.size)
    (hold : old.size = cells.size) (h1 : cells.all (·.oneCell') = true) (h : K (a.put o.dst undef) (w.setRow g cells)) :
    if Region.wanted o (yielded ops a.tmps) = true then Oper.wp P o a w K Q else E := by
  rw [if_pos (by simp [Region.wanted, hgd])]
  exact wp_store_row ty x y ho g cells hx hy t old hg hi hold h1 h
theorem lin_sub : ∀ {R : List Mem} {s : ByteArray} {m : Mem}, m ∈ lin R s → m ∈ R
  | [], _, _, h => by simp [lin] at h
  | x :: R, s, m, h => by
    unfold lin at h
    split at h
    · rcases List.mem_cons.1 h with rfl | h
      · simp
      · simp [lin_sub h]
    · simp [lin_sub h]
def MethIs (R : List Mem) (cls nm ds : ByteArray) (w w' : World) (e : Ending) : Prop :=
  match near (qM nm ds) (lin R cls) with
  | none => e = .returned (.tuple #[.string ⟨#[]⟩, .agg #[.string ⟨#[]⟩, .string ⟨#[]⟩, .bool false, .bool false, .int .i64 0, .int .i64 0, .slice none 0 0, .slice none 0 0, .slice none 0 0], .bool false])
  | some m => ∃ y row', m.k.ms.find? (isM nm ds) = some y ∧ e = .returned (.tuple #[.string m.k.nm, .agg (row' : List Value).toArray, .bool true]) ∧ MethR (seen (newB w.heap.size) w') row' y

set_option maxRecDepth 8000 in
set_option maxHeartbeats 4000000 in
theorem meth_find (w : World) (pk : Nat) (R : List Mem) (mb : Nat) (ao : Option Addr) (c : Nat) (h : KinV w pk R mb ao c) (hsm : ∀ m ∈ R, KSm m.k) (cls nm ds : ByteArray) :
    Calls Tryz.prog 16 #[.pointer (some ⟨pk, 0, none⟩), .string cls, .string nm, .string ds] w fun e w' => Below w.heap.size w w' ∧ MethIs R cls nm ds w w' e := by
  have B1 := balloc w (.cells #[.string ⟨#[]⟩, .string ⟨#[]⟩, .bool false, .bool false, .int .i64 0, .int .i64 0, .slice none 0 0, .slice none 0 0, .slice none 0 0] 48)
  have h1 := h.below B1
  have hl := h1.look cls
  have e1 := h1.e1
  have Y1 := Blk.new w #[.string ⟨#[]⟩, .string ⟨#[]⟩, .bool false, .bool false, .int .i64 0, .int .i64 0, .slice none 0 0, .slice none 0 0, .slice none 0 0] 48
  have hch := h1.mems.chain cls
  have hN := D.hidIt (nearest_any 28 (enters_of Tryz.func28 (by kernel_rfl) rfl) (qM nm ds) nm ds _ _ _ hch (fun W m ab h => mmeth_any m ab nm ds W h))
  unfold MethIs
  unfold nearN at hN
  cases hn : near (qM nm ds) (lin R cls) with
  | none =>
    rw [hn] at hN
    generalize mfind R cls = p at *
    simp only [ptr] at hN
    go_enter Tryz.func16, Tryz.ntmps16
    go_wp2_with fail
    generalize w.alloc (.cells #[.string ⟨#[]⟩, .string ⟨#[]⟩, .bool false, .bool false, .int .i64 0, .int .i64 0, .slice none 0 0, .slice none 0 0, .slice none 0 0] 48) = W1 at *
    refine hN.out.mono ?_
    rintro e w2 ⟨rfl, b2⟩
    have Y2 := Y1.below b2
    go_wp2_with (refine wpList_store_row rfl 48 _ _ rfl w.heap.size #[.string ⟨#[]⟩, .string ⟨#[]⟩, .bool false, .bool false, .int .i64 0, .int .i64 0, .slice none 0 0, .slice none 0 0, .slice none 0 0] rfl rfl 48 _ Y2 (by kernel_rfl) rfl (by simp [Value.oneCell']) ?_)
    refine bodyPost_ret (results_mid rfl _ _ w.heap.size 48 _ (0, 0) _ rfl (setRow_heap _ _ _ _ _ _ Y2) Tryz.underlying48 rfl (by kernel_rfl)) rfl ?_
    exact ⟨below_row (next B1 b2) (Nat.le_refl _) _, rfl⟩
  | some m =>
    rw [hn] at hN
    obtain ⟨hmem, hq⟩ := near_some hn
    obtain ⟨jj, y, hj, hy, hf⟩ := ixZ_at hq
    have hmR := lin_sub hmem
    simp only [ptr] at hN
    rw [show qM nm ds m = (jj : Int) from hj] at hN
    generalize mfind R cls = p at *
    go_enter Tryz.func16, Tryz.ntmps16
    go_wp2_with fail
    generalize w.alloc (.cells #[.string ⟨#[]⟩, .string ⟨#[]⟩, .bool false, .bool false, .int .i64 0, .int .i64 0, .slice none 0 0, .slice none 0 0, .slice none 0 0] 48) = W1 at *
    refine hN.out.mono ?_
    rintro e w2 ⟨rfl, b2⟩
    have Y2 := Y1.below b2
    obtain ⟨ab, a1, q1, a2, q2, a3, q3, hm⟩ := h.mems.at m hmR
    have B2 := next B1 b2
    have hmb := World.block_lt_of_cell? _ _ hm.e0
    have e0 := cell_later B2 hm.e0
    have e4 := cell_later B2 hm.e4
    have hlen : jj < m.k.ms.length := (List.getElem?_eq_some_iff.1 hy).1
    have hlen' : (jj : Int) < (m.k.ms.length : Int) := by omega
    obtain ⟨_, _, rows, h3, h4⟩ := hm.k3
    obtain ⟨b, off, rfl, hlt, hc⟩ := h3 (by omega)
    have hM := h4 jj y hy
    have hcp := D.hidIt (copyM y (rows jj) w2.drew (hM.below B2.drew) ((hsm m hmR).2.2.2 y (List.mem_of_getElem? hy)))
    obtain ⟨d1, t1, d2, t2, d3, t3, hr, _⟩ := hM
    rw [hr] at hcp
    have f0 := cell_later B2 (hc jj hlen 0 (.string y.nm) (by rw [hr]; rfl))
    have f1 := cell_later B2 (hc jj hlen 1 (.string y.ds) (by rw [hr]; rfl))
    have f2 := cell_later B2 (hc jj hlen 2 (.bool y.st) (by rw [hr]; rfl))
    have f3 := cell_later B2 (hc jj hlen 3 (.bool y.nat) (by rw [hr]; rfl))
    have f4 := cell_later B2 (hc jj hlen 4 (.int .i64 y.stk) (by rw [hr]; rfl))
    have f5 := cell_later B2 (hc jj hlen 5 (.int .i64 y.loc) (by rw [hr]; rfl))
    have f6 := cell_later B2 (hc jj hlen 6 (.slice d1 y.code.length t1) (by rw [hr]; rfl))
    have f7 := cell_later B2 (hc jj hlen 7 (.slice d2 y.hs.length t2) (by rw [hr]; rfl))
    have f8 := cell_later B2 (hc jj hlen 8 (.slice d3 y.rs.length t3) (by rw [hr]; rfl))
    simp only [Nat.add_zero] at f0
    have HS1 := D.hidIt (⟨e0, e4, f0, f1, f2, f3, f4, f5, f6, f7, f8⟩ : (fun X => X.cell? ⟨m.b, 0, none⟩ = some (.string m.k.nm) ∧ X.cell? ⟨m.b, 4, none⟩ = some (.slice (some ⟨b, off, none⟩) m.k.ms.length q3) ∧ X.cell? ⟨b, off + jj * 9, none⟩ = some (.string y.nm) ∧ X.cell? ⟨b, off + jj * 9 + 1, none⟩ = some (.string y.ds) ∧ X.cell? ⟨b, off + jj * 9 + 2, none⟩ = some (.bool y.st) ∧ X.cell? ⟨b, off + jj * 9 + 3, none⟩ = some (.bool y.nat) ∧ X.cell? ⟨b, off + jj * 9 + 4, none⟩ = some (.int .i64 y.stk) ∧ X.cell? ⟨b, off + jj * 9 + 5, none⟩ = some (.int .i64 y.loc) ∧ X.cell? ⟨b, off + jj * 9 + 6, none⟩ = some (.slice d1 y.code.length t1) ∧ X.cell? ⟨b, off + jj * 9 + 7, none⟩ = some (.slice d2 y.hs.length t2) ∧ X.cell? ⟨b, off + jj * 9 + 8, none⟩ = some (.slice d3 y.rs.length t3)) w2)
    have SB : ∀ (X Y : World), Below X.heap.size X Y → (fun X => X.cell? ⟨m.b, 0, none⟩ = some (.string m.k.nm) ∧ X.cell? ⟨m.b, 4, none⟩ = some (.slice (some ⟨b, off, none⟩) m.k.ms.length q3) ∧ X.cell? ⟨b, off + jj * 9, none⟩ = some (.string y.nm) ∧ X.cell? ⟨b, off + jj * 9 + 1, none⟩ = some (.string y.ds) ∧ X.cell? ⟨b, off + jj * 9 + 2, none⟩ = some (.bool y.st) ∧ X.cell? ⟨b, off + jj * 9 + 3, none⟩ = some (.bool y.nat) ∧ X.cell? ⟨b, off + jj * 9 + 4, none⟩ = some (.int .i64 y.stk) ∧ X.cell? ⟨b, off + jj * 9 + 5, none⟩ = some (.int .i64 y.loc) ∧ X.cell? ⟨b, off + jj * 9 + 6, none⟩ = some (.slice d1 y.code.length t1) ∧ X.cell? ⟨b, off + jj * 9 + 7, none⟩ = some (.slice d2 y.hs.length t2) ∧ X.cell? ⟨b, off + jj * 9 + 8, none⟩ = some (.slice d3 y.rs.length t3)) X → (fun X => X.cell? ⟨m.b, 0, none⟩ = some (.string m.k.nm) ∧ X.cell? ⟨m.b, 4, none⟩ = some (.slice (some ⟨b, off, none⟩) m.k.ms.length q3) ∧ X.cell? ⟨b, off + jj * 9, none⟩ = some (.string y.nm) ∧ X.cell? ⟨b, off + jj * 9 + 1, none⟩ = some (.string y.ds) ∧ X.cell? ⟨b, off + jj * 9 + 2, none⟩ = some (.bool y.st) ∧ X.cell? ⟨b, off + jj * 9 + 3, none⟩ = some (.bool y.nat) ∧ X.cell? ⟨b, off + jj * 9 + 4, none⟩ = some (.int .i64 y.stk) ∧ X.cell? ⟨b, off + jj * 9 + 5, none⟩ = some (.int .i64 y.loc) ∧ X.cell? ⟨b, off + jj * 9 + 6, none⟩ = some (.slice d1 y.code.length t1) ∧ X.cell? ⟨b, off + jj * 9 + 7, none⟩ = some (.slice d2 y.hs.length t2) ∧ X.cell? ⟨b, off + jj * 9 + 8, none⟩ = some (.slice d3 y.rs.length t3)) Y := fun _ _ hb hx => ⟨cell_later hb hx.1, cell_later hb hx.2.1, cell_later hb hx.2.2.1, cell_later hb hx.2.2.2.1, cell_later hb hx.2.2.2.2.1, cell_later hb hx.2.2.2.2.2.1, cell_later hb hx.2.2.2.2.2.2.1, cell_later hb hx.2.2.2.2.2.2.2.1, cell_later hb hx.2.2.2.2.2.2.2.2.1, cell_later hb hx.2.2.2.2.2.2.2.2.2.1, cell_later hb hx.2.2.2.2.2.2.2.2.2.2⟩
    have SR : ∀ (X : World) (cs : Array Value), (fun X => X.cell? ⟨m.b, 0, none⟩ = some (.string m.k.nm) ∧ X.cell? ⟨m.b, 4, none⟩ = some (.slice (some ⟨b, off, none⟩) m.k.ms.length q3) ∧ X.cell? ⟨b, off + jj * 9, none⟩ = some (.string y.nm) ∧ X.cell? ⟨b, off + jj * 9 + 1, none⟩ = some (.string y.ds) ∧ X.cell? ⟨b, off + jj * 9 + 2, none⟩ = some (.bool y.st) ∧ X.cell? ⟨b, off + jj * 9 + 3, none⟩ = some (.bool y.nat) ∧ X.cell? ⟨b, off + jj * 9 + 4, none⟩ = some (.int .i64 y.stk) ∧ X.cell? ⟨b, off + jj * 9 + 5, none⟩ = some (.int .i64 y.loc) ∧ X.cell? ⟨b, off + jj * 9 + 6, none⟩ = some (.slice d1 y.code.length t1) ∧ X.cell? ⟨b, off + jj * 9 + 7, none⟩ = some (.slice d2 y.hs.length t2) ∧ X.cell? ⟨b, off + jj * 9 + 8, none⟩ = some (.slice d3 y.rs.length t3)) X → (fun X => X.cell? ⟨m.b, 0, none⟩ = some (.string m.k.nm) ∧ X.cell? ⟨m.b, 4, none⟩ = some (.slice (some ⟨b, off, none⟩) m.k.ms.length q3) ∧ X.cell? ⟨b, off + jj * 9, none⟩ = some (.string y.nm) ∧ X.cell? ⟨b, off + jj * 9 + 1, none⟩ = some (.string y.ds) ∧ X.cell? ⟨b, off + jj * 9 + 2, none⟩ = some (.bool y.st) ∧ X.cell? ⟨b, off + jj * 9 + 3, none⟩ = some (.bool y.nat) ∧ X.cell? ⟨b, off + jj * 9 + 4, none⟩ = some (.int .i64 y.stk) ∧ X.cell? ⟨b, off + jj * 9 + 5, none⟩ = some (.int .i64 y.loc) ∧ X.cell? ⟨b, off + jj * 9 + 6, none⟩ = some (.slice d1 y.code.length t1) ∧ X.cell? ⟨b, off + jj * 9 + 7, none⟩ = some (.slice d2 y.hs.length t2) ∧ X.cell? ⟨b, off + jj * 9 + 8, none⟩ = some (.slice d3 y.rs.length t3)) (X.setRow w.heap.size cs) := fun _ cs hx => by
      refine ⟨?_, ?_, ?_, ?_, ?_, ?_, ?_, ?_, ?_, ?_, ?_⟩ <;> rw [cell_setRow_other _ _ _ _ (by first | exact Nat.ne_of_lt hmb | exact Nat.ne_of_lt hlt)]
      · exact hx.1
      · exact hx.2.1
      · exact hx.2.2.1
      · exact hx.2.2.2.1
      · exact hx.2.2.2.2.1
      · exact hx.2.2.2.2.2.1
      · exact hx.2.2.2.2.2.2.1
      · exact hx.2.2.2.2.2.2.2.1
      · exact hx.2.2.2.2.2.2.2.2.1
      · exact hx.2.2.2.2.2.2.2.2.2.1
      · exact hx.2.2.2.2.2.2.2.2.2.2
    have HSB := D.hidIt SB
    have HSR := D.hidIt SR
    clear SB SR e0 e4 f0 f1 f2 f3 f4 f5 f6 f7 f8 hc h3 h4 hm hr
    go_wp2_with fail
    refine wp_region_noPanic ?_
    refine wp_region_held_drew (S := (fun X => X.cell? ⟨m.b, 0, none⟩ = some (.string m.k.nm) ∧ X.cell? ⟨m.b, 4, none⟩ = some (.slice (some ⟨b, off, none⟩) m.k.ms.length q3) ∧ X.cell? ⟨b, off + jj * 9, none⟩ = some (.string y.nm) ∧ X.cell? ⟨b, off + jj * 9 + 1, none⟩ = some (.string y.ds) ∧ X.cell? ⟨b, off + jj * 9 + 2, none⟩ = some (.bool y.st) ∧ X.cell? ⟨b, off + jj * 9 + 3, none⟩ = some (.bool y.nat) ∧ X.cell? ⟨b, off + jj * 9 + 4, none⟩ = some (.int .i64 y.stk) ∧ X.cell? ⟨b, off + jj * 9 + 5, none⟩ = some (.int .i64 y.loc) ∧ X.cell? ⟨b, off + jj * 9 + 6, none⟩ = some (.slice d1 y.code.length t1) ∧ X.cell? ⟨b, off + jj * 9 + 7, none⟩ = some (.slice d2 y.hs.length t2) ∧ X.cell? ⟨b, off + jj * 9 + 8, none⟩ = some (.slice d3 y.rs.length t3))) (by kernel_rfl) ?_ (fun hHeld => ?_)
    · (try dsimp only); first | exact HS1.out | exact HSB.out _ _ b3 HS1.out | exact HSR.out _ _ (HSB.out _ _ b3 HS1.out)
    refine wpAnyH_take (i := 0) (oi := ⟨some 28, .move (.tmp 11), 62, "line.go:80", #[], none⟩) (v := ?vm_1) rfl (by kernel_rfl) (by kernel_rfl) (by kernel_rfl) (fun _ _ _ h => h) (Or.inl ⟨by rfl, ?hym_1⟩) (by assumption) ?restm_1
    case hym_1 => intro w hSw; (try dsimp only at hSw); go_simp; try with_reducible rfl
    try simp only [Act.put, List.setIfInBounds_toArray, List.set_cons_zero, List.set_cons_succ]
    refine wpAnyH_take (i := 1) (oi := ⟨some 29, .nilCheck (.tmp 28), 0, "line.go:80", #[⟨0, .data⟩], none⟩) (v := ?vm_2) rfl (by kernel_rfl) (by kernel_rfl) (by kernel_rfl) (fun _ _ _ h => h) (Or.inl ⟨by rfl, ?hym_2⟩) (by assumption) ?restm_2
    case hym_2 => intro w hSw; (try dsimp only at hSw); go_simp; try with_reducible rfl
    try simp only [Act.put, List.setIfInBounds_toArray, List.set_cons_zero, List.set_cons_succ]
    refine wpAnyH_take (i := 2) (oi := ⟨some 30, .fieldAddr 64 (.tmp 29) 0, 0, "line.go:80", #[⟨1, .data⟩], none⟩) (v := ?vm_3) rfl (by kernel_rfl) (by kernel_rfl) (by kernel_rfl) (fun _ _ _ h => h) (Or.inl ⟨by rfl, ?hym_3⟩) (by assumption) ?restm_3
    case hym_3 => intro w hSw; (try dsimp only at hSw); go_simp; try with_reducible rfl
    try simp only [Act.put, List.setIfInBounds_toArray, List.set_cons_zero, List.set_cons_succ]
    refine wpAnyH_take (i := 3) (oi := ⟨some 31, .fieldAddr 33 (.tmp 30) 0, 0, "line.go:80", #[⟨2, .data⟩], none⟩) (v := ?vm_4) rfl (by kernel_rfl) (by kernel_rfl) (by kernel_rfl) (fun _ _ _ h => h) (Or.inl ⟨by rfl, ?hym_4⟩) (by assumption) ?restm_4
    case hym_4 => intro w hSw; (try dsimp only at hSw); go_simp; try with_reducible rfl
    try simp only [Act.put, List.setIfInBounds_toArray, List.set_cons_zero, List.set_cons_succ]
    refine wpAnyH_take (i := 4) (oi := ⟨some 32, .load 9 (.tmp 31), 9, "line.go:80", #[⟨3, .data⟩], none⟩) (v := ?vm_5) rfl (by kernel_rfl) (by kernel_rfl) (by kernel_rfl) (fun _ _ _ h => h) (Or.inl ⟨by rfl, ?hym_5⟩) (by assumption) ?restm_5
    case hym_5 => intro w hSw; (try dsimp only at hSw); go_simp; try with_reducible rfl
    try simp only [Act.put, List.setIfInBounds_toArray, List.set_cons_zero, List.set_cons_succ]
    refine wpAnyH_take (i := 5) (oi := ⟨some 33, .move (.tmp 11), 62, "line.go:80", #[], none⟩) (v := ?vm_6) rfl (by kernel_rfl) (by kernel_rfl) (by kernel_rfl) (fun _ _ _ h => h) (Or.inl ⟨by rfl, ?hym_6⟩) (by assumption) ?restm_6
    case hym_6 => intro w hSw; (try dsimp only at hSw); go_simp; try with_reducible rfl
    try simp only [Act.put, List.setIfInBounds_toArray, List.set_cons_zero, List.set_cons_succ]
    refine wpAnyH_take (i := 6) (oi := ⟨some 34, .nilCheck (.tmp 33), 0, "line.go:80", #[⟨5, .data⟩], none⟩) (v := ?vm_7) rfl (by kernel_rfl) (by kernel_rfl) (by kernel_rfl) (fun _ _ _ h => h) (Or.inl ⟨by rfl, ?hym_7⟩) (by assumption) ?restm_7
    case hym_7 => intro w hSw; (try dsimp only at hSw); go_simp; try with_reducible rfl
    try simp only [Act.put, List.setIfInBounds_toArray, List.set_cons_zero, List.set_cons_succ]
    refine wpAnyH_take (i := 7) (oi := ⟨some 35, .fieldAddr 64 (.tmp 34) 0, 0, "line.go:80", #[⟨6, .data⟩], none⟩) (v := ?vm_8) rfl (by kernel_rfl) (by kernel_rfl) (by kernel_rfl) (fun _ _ _ h => h) (Or.inl ⟨by rfl, ?hym_8⟩) (by assumption) ?restm_8
    case hym_8 => intro w hSw; (try dsimp only at hSw); go_simp; try with_reducible rfl
    try simp only [Act.put, List.setIfInBounds_toArray, List.set_cons_zero, List.set_cons_succ]
    refine wpAnyH_take (i := 8) (oi := ⟨some 36, .fieldAddr 33 (.tmp 35) 4, 0, "line.go:80", #[⟨7, .data⟩], none⟩) (v := ?vm_9) rfl (by kernel_rfl) (by kernel_rfl) (by kernel_rfl) (fun _ _ _ h => h) (Or.inl ⟨by rfl, ?hym_9⟩) (by assumption) ?restm_9
    case hym_9 => intro w hSw; (try dsimp only at hSw); go_simp; try with_reducible rfl
    try simp only [Act.put, List.setIfInBounds_toArray, List.set_cons_zero, List.set_cons_succ]
    refine wpAnyH_take (i := 9) (oi := ⟨some 37, .load 31 (.tmp 36), 31, "line.go:80", #[⟨8, .data⟩], none⟩) (v := ?vm_10) rfl (by kernel_rfl) (by kernel_rfl) (by kernel_rfl) (fun _ _ _ h => h) (Or.inl ⟨by rfl, ?hym_10⟩) (by assumption) ?restm_10
    case hym_10 => intro w hSw; (try dsimp only at hSw); go_simp; try with_reducible rfl
    try simp only [Act.put, List.setIfInBounds_toArray, List.set_cons_zero, List.set_cons_succ]
    refine wpAnyH_take (i := 10) (oi := ⟨some 38, .move (.tmp 12), 3, "line.go:80", #[], none⟩) (v := ?vm_11) rfl (by kernel_rfl) (by kernel_rfl) (by kernel_rfl) (fun _ _ _ h => h) (Or.inl ⟨by rfl, ?hym_11⟩) (by assumption) ?restm_11
    case hym_11 => intro w hSw; (try dsimp only at hSw); go_simp; try with_reducible rfl
    try simp only [Act.put, List.setIfInBounds_toArray, List.set_cons_zero, List.set_cons_succ]
    refine wpAnyH_take (i := 11) (oi := ⟨some 39, .indexAddr 31 (.tmp 37) (.tmp 38), 0, "line.go:80", #[⟨9, .data⟩, ⟨10, .data⟩], none⟩) (v := ?vm_12) rfl (by kernel_rfl) (by kernel_rfl) (by kernel_rfl) (fun _ _ _ h => h) (Or.inl ⟨by rfl, ?hym_12⟩) (by assumption) ?restm_12
    case hym_12 => intro w hSw; (try dsimp only at hSw); go_simp; try with_reducible rfl
    try simp only [Act.put, List.setIfInBounds_toArray, List.set_cons_zero, List.set_cons_succ]
    refine wpAnyH_take (i := 12) (oi := ⟨some 40, .load 48 (.tmp 39), 48, "line.go:80", #[⟨11, .data⟩], none⟩) (v := ?vm_13) rfl (by kernel_rfl) (by kernel_rfl) (by kernel_rfl) (fun _ _ _ h => h) (Or.inl ⟨by rfl, ?hym_13⟩) (by assumption) ?restm_13
    case hym_13 => intro w hSw; (try dsimp only at hSw); go_simp; try with_reducible rfl
    try simp only [Act.put, List.setIfInBounds_toArray, List.set_cons_zero, List.set_cons_succ]
    refine wpAnyH_ready (rs := [13]) (by kernel_rfl) (by simp) ?_
    refine AllReadyH.cons (o := ⟨some 41, .call { callee := .value (.func 29), args := #[.tmp 40], argTypes := #[48] }, 48, "line.go:80", #[⟨12, .data⟩], none⟩) rfl (fun K hK => ?_) AllReadyH.nil
    go_simp
    refine hcp.out.mono ?_
    rintro e w3 ⟨b3, row3, rfl, hM3'⟩
    have hM3 := hM3'
    obtain ⟨h1, j1, h2, j2, h3, j3, rfl, _⟩ := hM3'
    have Y3 : Blk w3 w.heap.size #[.string ⟨#[]⟩, .string ⟨#[]⟩, .bool false, .bool false, .int .i64 0, .int .i64 0, .slice none 0 0, .slice none 0 0, .slice none 0 0] 48 := Blk.below (show Blk w2.drew w.heap.size _ _ from Y2) b3
    try go_wp2_with fail
    refine hK.out _ _ ?hSm_14 ?restm_14
    case hSm_14 => (try dsimp only); first | exact HS1.out | exact HSB.out _ _ b3 HS1.out | exact HSR.out _ _ (HSB.out _ _ b3 HS1.out)
    clear hK K hHeld
    intro hHeld
    try simp only [Act.put, List.setIfInBounds_toArray, List.set_cons_zero, List.set_cons_succ]
    refine wpAnyH_take (i := 14) (oi := ⟨some 8, .assign (.tmp 32), 9, "line.go:80", #[⟨4, .data⟩, ⟨13, .chain⟩, ⟨0, .phase⟩, ⟨1, .phase⟩, ⟨2, .phase⟩, ⟨3, .phase⟩, ⟨4, .phase⟩, ⟨5, .textOnly .lateStores⟩, ⟨6, .textOnly .lateStores⟩, ⟨7, .textOnly .lateStores⟩, ⟨8, .textOnly .lateStores⟩, ⟨9, .textOnly .lateStores⟩, ⟨10, .textOnly .lateStores⟩, ⟨11, .textOnly .lateStores⟩, ⟨12, .textOnly .lateStores⟩, ⟨13, .textOnly .lateStoresUnsure⟩], none⟩) (v := ?vm_15) rfl (by kernel_rfl) (by kernel_rfl) (by kernel_rfl) (fun _ _ _ h => h) (Or.inl ⟨by rfl, ?hym_15⟩) (by assumption) ?restm_15
    case hym_15 => intro w hSw; (try dsimp only at hSw); go_simp; try with_reducible rfl
    try simp only [Act.put, List.setIfInBounds_toArray, List.set_cons_zero, List.set_cons_succ]
    refine wpAnyH_ready (rs := [15]) (by kernel_rfl) (by simp) ?_
    refine AllReadyH.cons (o := ⟨none, .store 48 (.tmp 9) (.tmp 41), 0, "line.go:80", #[⟨13, .data⟩, ⟨14, .chain⟩, ⟨0, .phase⟩, ⟨1, .phase⟩, ⟨2, .phase⟩, ⟨3, .phase⟩, ⟨4, .phase⟩, ⟨5, .phase⟩, ⟨6, .phase⟩, ⟨7, .phase⟩, ⟨8, .phase⟩, ⟨9, .phase⟩, ⟨10, .phase⟩, ⟨11, .phase⟩, ⟨12, .phase⟩, ⟨13, .phase⟩, ⟨14, .phase⟩], none⟩) rfl (fun K hK => ?_) AllReadyH.nil
    refine op_store_row rfl 48 _ _ rfl w.heap.size #[.string y.nm, .string y.ds, .bool y.st, .bool y.nat, .int .i64 y.stk, .int .i64 y.loc, .slice h1 y.code.length j1, .slice h2 y.hs.length j2, .slice h3 y.rs.length j3] rfl rfl 48 _ Y3 (by kernel_rfl) rfl (by simp [Value.oneCell']) ?_
    refine hK.out _ _ ?hSm_16 ?restm_16
    case hSm_16 => (try dsimp only); first | exact HS1.out | exact HSB.out _ _ b3 HS1.out | exact HSR.out _ _ (HSB.out _ _ b3 HS1.out)
    clear hK K hHeld
    intro hHeld
    try simp only [Act.put]
    refine wpAnyH_take (i := 16) (oi := ⟨some 10, .assign (.const (.bool true)), 4, "line.go:80", #[⟨15, .chain⟩, ⟨0, .phase⟩, ⟨1, .phase⟩, ⟨2, .phase⟩, ⟨3, .phase⟩, ⟨4, .phase⟩, ⟨5, .phase⟩, ⟨6, .phase⟩, ⟨7, .phase⟩, ⟨8, .phase⟩, ⟨9, .phase⟩, ⟨10, .phase⟩, ⟨11, .phase⟩, ⟨12, .phase⟩, ⟨13, .phase⟩, ⟨14, .phase⟩, ⟨15, .phase⟩], none⟩) (v := ?vm_17) rfl (by kernel_rfl) (by kernel_rfl) (by kernel_rfl) (fun _ _ _ h => h) (Or.inl ⟨by rfl, ?hym_17⟩) (by assumption) ?restm_17
    case hym_17 => intro w hSw; (try dsimp only at hSw); go_simp; try with_reducible rfl
    try simp only [Act.put, List.setIfInBounds_toArray, List.set_cons_zero, List.set_cons_succ]
    refine wpAnyH_done (by kernel_rfl) ?_ _
    refine NoPanic.normal ?_
    go_wp2_with fail
    refine bodyPost_ret (results_mid rfl _ _ w.heap.size 48 _ (0, 0) _ rfl (setRow_heap _ _ _ _ _ _ Y3) Tryz.underlying48 rfl (by kernel_rfl)) rfl ?_
    have Eb : Ext (seen (newB w2.drew.heap.size) w3) (seen (newB w.heap.size) (w3.setRow w.heap.size #[.string y.nm, .string y.ds, .bool y.st, .bool y.nat, .int .i64 y.stk, .int .i64 y.loc, .slice h1 y.code.length j1, .slice h2 y.hs.length j2, .slice h3 y.rs.length j3])) :=
      seen_mono (by simp [World.setRow]) (fun b _ hb => by
        simp only [newB, decide_eq_true_eq] at hb
        have h1 := B2.size
        have h2 := Y2.lt
        have h3 : w2.drew.heap.size = w2.heap.size := rfl
        exact ⟨by simp [newB]; omega, setRow_other _ _ _ _ (by omega)⟩)
    exact ⟨below_row (next B2 (next (Below.refl _ w2).drew b3)) (Nat.le_refl _) _, y, _, hf, rfl, MethR.ext Eb hM3⟩
end Go.Proofs.YtbmfkbgncjldjabGreat.K
namespace Go.Proofs.YtbmfkbgncjldjabGreat.K
open Go.RowKit Q Q.D

def kfind : List KD → ByteArray → Option KD
  | [], _ => none
  | m :: o, s => if s == m.nm then some m else kfind o s
def klin : List KD → ByteArray → List KD
  | [], _ => []
  | m :: o, s => if s == m.nm then m :: klin o m.sup else klin o s
theorem mfind_k : ∀ (R : List Mem) (s : ByteArray), (mfind R s).map Mem.k = kfind (R.map Mem.k) s
  | [], _ => rfl
  | m :: o, s => by
    simp only [mfind, kfind, List.map_cons]
    split
    · rfl
    · exact mfind_k o s
theorem lin_k : ∀ (R : List Mem) (s : ByteArray), (lin R s).map Mem.k = klin (R.map Mem.k) s
  | [], _ => rfl
  | m :: o, s => by
    simp only [lin, klin, List.map_cons]
    split
    · simp only [List.map_cons, lin_k o]
    · exact lin_k o s
def knear (q : KD → Int) : List KD → Option KD
  | [] => none
  | m :: l => if 0 ≤ q m then some m else knear q l
theorem near_k (q : KD → Int) : ∀ (l : List Mem), (near (fun m => q m.k) l).map Mem.k = knear q (l.map Mem.k)
  | [] => rfl
  | m :: l => by
    simp only [near, knear, List.map_cons]
    split
    · rfl
    · exact near_k q l
def kfoundM (nm ds : ByteArray) (l : List KD) : Option MD := match knear (fun k => ixZ k.ms (isM nm ds)) l with | some m => m.ms.find? (isM nm ds) | none => none
theorem foundM_k (nm ds : ByteArray) (l : List Mem) : foundM nm ds l = kfoundM nm ds (l.map Mem.k) := by
  unfold foundM kfoundM
  have := near_k (fun k => ixZ k.ms (isM nm ds)) l
  rw [← this]
  show (match near (qM nm ds) l with | some m => _ | none => _) = _
  have e : (fun m : Mem => ixZ m.k.ms (isM nm ds)) = qM nm ds := rfl
  rw [e]
  cases near (qM nm ds) l <;> rfl
def kcontraB (l : List KD) (x : MD) : Bool := match kfoundM x.nm x.ds l with | some y => y.st != x.st | none => false
theorem contraB_k (l : List Mem) (x : MD) : contraB l x = kcontraB (l.map Mem.k) x := by
  unfold contraB kcontraB
  rw [foundM_k]
  cases kfoundM x.nm x.ds (l.map Mem.k) <;> rfl
def krefZ (R : List KD) (k : KD) : Int :=
  if rightZ k = 0 then
    (if (kfind R k.nm).isSome then 23 else if 32 ≤ R.length then 4 else if (kfind R k.sup).isNone then 22 else if k.ms.any MD.nat then 12 else if k.ms.any (kcontraB (klin R k.sup)) then 23 else 0)
  else rightZ k
theorem refZ_k (R : List Mem) (k : KD) : refZ R k = krefZ (R.map Mem.k) k := by
  unfold refZ krefZ
  have e1 : (mfind R k.nm).isSome = (kfind (R.map Mem.k) k.nm).isSome := by rw [← mfind_k]; cases mfind R k.nm <;> rfl
  have e2 : (mfind R k.sup).isNone = (kfind (R.map Mem.k) k.sup).isNone := by rw [← mfind_k]; cases mfind R k.sup <;> rfl
  have e3 : contraB (lin R k.sup) = kcontraB (klin (R.map Mem.k) k.sup) := by
    funext x
    rw [contraB_k, lin_k]
  rw [e1, e2, e3, List.length_map]
theorem meth_k {R : List Mem} {cls nm ds : ByteArray} {w w' : World} {e : Ending} (h : MethIs R cls nm ds w w' e) : match knear (fun k => ixZ k.ms (isM nm ds)) (klin (R.map Mem.k) cls) with
    | none => e = .returned (.tuple #[.string ⟨#[]⟩, .agg #[.string ⟨#[]⟩, .string ⟨#[]⟩, .bool false, .bool false, .int .i64 0, .int .i64 0, .slice none 0 0, .slice none 0 0, .slice none 0 0], .bool false])
    | some k => ∃ y row', k.ms.find? (isM nm ds) = some y ∧ e = .returned (.tuple #[.string k.nm, .agg (row' : List Value).toArray, .bool true]) ∧ MethR (seen (newB w.heap.size) w') row' y := by
  unfold MethIs at h
  have := near_k (fun k => ixZ k.ms (isM nm ds)) (lin R cls)
  rw [← lin_k, ← this]
  have e : (fun m : Mem => ixZ m.k.ms (isM nm ds)) = qM nm ds := rfl
  rw [e]
  cases hn : near (qM nm ds) (lin R cls) with
  | none => rw [hn] at h; exact h
  | some m => rw [hn] at h; exact h
theorem given_small : ∀ k ∈ givenK, KSm k := by
  intro k hk
  refine ⟨?_, ?_, ?_, ?_⟩
  · revert k; decide
  · revert k; decide
  · revert k; decide
  · intro m hm
    refine ⟨?_, ?_, ?_, ?_⟩
    · revert hm; revert m; revert k; decide
    · revert hm; revert m; revert k; decide
    · revert hm; revert m; revert k; decide
    · have : m.rs = [] := by revert hm; revert m; revert k; decide
      rw [this]; simp

def Alpha : ByteArray := ⟨#[65]⟩
theorem k_known1 : krefZ givenK.reverse (plainK Alpha ⟨#[66]⟩) = 22 := by decide +kernel
theorem k_known2 : krefZ givenK.reverse (plainK Alpha ⟨#[84, 104, 114, 101, 97, 100]⟩) = 0 := by decide +kernel
theorem k_known3 : klin (plainK Alpha ⟨#[84, 104, 114, 101, 97, 100]⟩ :: givenK.reverse) ⟨#[73, 110, 100, 101, 120]⟩ = [plainK ⟨#[73, 110, 100, 101, 120]⟩ throwableN, plainK throwableN objectN, objectK] := by rfl
theorem k_known4 : knear (fun k => ixZ k.ms (isM ⟨#[115, 116, 97, 114, 116]⟩ ⟨#[40, 41, 86]⟩)) (klin (plainK Alpha ⟨#[84, 104, 114, 101, 97, 100]⟩ :: givenK.reverse) Alpha) = some threadK := by kernel_rfl
theorem k_known5 : threadK.ms.find? (isM ⟨#[115, 116, 97, 114, 116]⟩ ⟨#[40, 41, 86]⟩) = some (natM ⟨#[115, 116, 97, 114, 116]⟩ ⟨#[40, 41, 86]⟩ false) := by kernel_rfl
end Go.Proofs.YtbmfkbgncjldjabGreat.K
namespace Go.Proofs.YtbmfkbgncjldjabGreat.K
open Go.RowKit Q Q.D

def KWf : List KD → Prop
  | [] => True
  | k :: o => kfind o k.nm = none ∧ ((o = [] ∧ k.nm = objectN) ∨ ∃ m, kfind o k.sup = some m) ∧ KWf o
theorem beq_true {a b : ByteArray} : (a == b) = true ↔ a = b := MapKept.bytes_beq a b
theorem kfind_some : ∀ {R : List KD} {s : ByteArray} {k : KD}, kfind R s = some k → k.nm = s ∧ k ∈ R
  | [], _, _, h => by simp [kfind] at h
  | m :: o, s, k, h => by
    unfold kfind at h
    split at h
    · rename_i hs
      cases h
      exact ⟨(beq_true.1 hs).symm, by simp⟩
    · have := kfind_some h
      exact ⟨this.1, by simp [this.2]⟩
theorem kfind_none : ∀ {R : List KD} {s : ByteArray}, kfind R s = none → ∀ k ∈ R, k.nm ≠ s
  | [], _, _ => fun k hk => by simp at hk
  | m :: o, s, h => by
    unfold kfind at h
    split at h
    · cases h
    · rename_i hs
      intro k hk
      rcases List.mem_cons.1 hk with rfl | hk
      · intro e
        exact hs (beq_true.2 e.symm)
      · exact kfind_none h k hk
theorem klin_in : ∀ {R : List KD} {s : ByteArray} {k : KD}, k ∈ klin R s → k ∈ R
  | [], _, _, h => by simp [klin] at h
  | x :: R, s, m, h => by
    unfold klin at h
    split at h
    · rcases List.mem_cons.1 h with rfl | h
      · simp
      · simp [klin_in h]
    · simp [klin_in h]
theorem klin_yes {m : KD} {o : List KD} {s : ByteArray} (h : s = m.nm) : klin (m :: o) s = m :: klin o m.sup := by
  show (if s == m.nm then m :: klin o m.sup else klin o s) = _
  rw [if_pos (beq_true.2 h)]
theorem klin_no {m : KD} {o : List KD} {s : ByteArray} (h : s ≠ m.nm) : klin (m :: o) s = klin o s := by
  conv => lhs; unfold klin
  rw [if_neg (fun e => h (beq_true.1 e))]
theorem kfind_yes {m : KD} {o : List KD} {s : ByteArray} (h : s = m.nm) : kfind (m :: o) s = some m := by
  unfold kfind
  rw [if_pos (beq_true.2 h)]
theorem kfind_no {m : KD} {o : List KD} {s : ByteArray} (h : s ≠ m.nm) : kfind (m :: o) s = kfind o s := by
  conv => lhs; unfold kfind
  rw [if_neg (fun e => h (beq_true.1 e))]
theorem klin_head : ∀ {R : List KD} {s : ByteArray} {k : KD}, kfind R s = some k → ∃ t, klin R s = k :: t
  | [], _, _, h => by simp [kfind] at h
  | m :: o, s, k, h => by
    by_cases hs : s = m.nm
    · rw [kfind_yes hs] at h
      cases h
      exact ⟨_, klin_yes hs⟩
    · rw [kfind_no hs] at h
      rw [klin_no hs]
      exact klin_head h
theorem klin_find : ∀ {R : List KD} {s : ByteArray} {k : KD}, KWf R → k ∈ klin R s → kfind R k.nm = some k
  | [], _, _, _, h => by simp [klin] at h
  | m :: o, s, k, hw, h => by
    have older : ∀ {t : ByteArray}, k ∈ klin o t → kfind (m :: o) k.nm = some k := fun hk => by
      rw [kfind_no (fun e => kfind_none hw.1 k (klin_in hk) e)]
      exact klin_find hw.2.2 hk
    by_cases hs : s = m.nm
    · rw [klin_yes hs] at h
      rcases List.mem_cons.1 h with rfl | h
      · exact kfind_yes rfl
      · exact older h
    · rw [klin_no hs] at h
      exact older h
theorem klin_last : ∀ {R : List KD} {s : ByteArray} {k : KD}, KWf R → kfind R s = some k → ∃ z, (klin R s).getLast? = some z ∧ z.nm = objectN
  | [], _, _, _, h => by simp [kfind] at h
  | m :: o, s, k, hw, h => by
    by_cases hs : s = m.nm
    · rw [klin_yes hs]
      rcases hw.2.1 with ⟨rfl, he⟩ | ⟨p, hp⟩
      · exact ⟨m, rfl, he⟩
      · obtain ⟨z, hz, hzn⟩ := klin_last hw.2.2 hp
        refine ⟨z, ?_, hzn⟩
        obtain ⟨t, ht⟩ := klin_head hp
        rw [ht] at hz ⊢
        rw [List.getLast?_cons_cons]
        exact hz
    · rw [kfind_no hs] at h
      rw [klin_no hs]
      exact klin_last hw.2.2 h
theorem klin_chain : ∀ {R : List KD} {s : ByteArray} {j : Nat} {x y : KD}, KWf R → (klin R s)[j]? = some x → (klin R s)[j + 1]? = some y → x.sup = y.nm
  | [], _, _, _, _, _, h, _ => by simp [klin] at h
  | m :: o, s, j, x, y, hw, h1, h2 => by
    by_cases hs : s = m.nm
    · rw [klin_yes hs] at h1 h2
      rcases j with _ | j
      · simp at h1 h2
        subst h1
        rcases hw.2.1 with ⟨rfl, he⟩ | ⟨p, hp⟩
        · simp [klin] at h2
        · obtain ⟨t, ht⟩ := klin_head hp
          rw [ht] at h2
          simp at h2
          subst h2
          exact (kfind_some hp).1.symm
      · simp at h1 h2
        exact klin_chain hw.2.2 h1 h2
    · rw [klin_no hs] at h1 h2
      exact klin_chain hw.2.2 h1 h2
def ksubK (R : List KD) (a b : ByteArray) : Bool := (klin R a).any fun k => k.nm.toList == b.toList
theorem subB_kk (R : List Mem) (a b : ByteArray) : subB R a b = ksubK (R.map Mem.k) a b := by
  unfold subB ksubK
  rw [← lin_k, List.any_map]
  rfl
theorem tl_beq {a b : ByteArray} : (a.toList == b.toList) = true ↔ a = b := ⟨fun h => bytes_ext (eq_of_beq h), fun h => by rw [h]; exact beq_self_eq_true _⟩
theorem ksubK_true {R : List KD} {a b : ByteArray} : ksubK R a b = true ↔ ∃ k ∈ klin R a, k.nm = b := by
  unfold ksubK
  rw [List.any_eq_true]
  exact ⟨fun ⟨k, hk, e⟩ => ⟨k, hk, tl_beq.1 e⟩, fun ⟨k, hk, e⟩ => ⟨k, hk, tl_beq.2 e⟩⟩
theorem ksub_self {R : List KD} {s : ByteArray} {k : KD} (h : kfind R s = some k) : ksubK R s s = true := by
  obtain ⟨t, ht⟩ := klin_head h
  exact ksubK_true.2 ⟨k, by rw [ht]; simp, (kfind_some h).1⟩
theorem ksub_line {R : List KD} {s : ByteArray} {k : KD} (h : k ∈ klin R s) : ksubK R s k.nm = true := ksubK_true.2 ⟨k, h, rfl⟩
theorem ksub_back : ∀ {R : List KD} {s : ByteArray} {j : Nat} {x : KD}, KWf R → (klin R s)[j + 1]? = some x → ksubK R x.nm s = false
  | [], _, _, _, _, h => by simp [klin] at h
  | m :: o, s, j, x, hw, h => by
    have key : ∀ {t : ByteArray}, x ∈ klin o t → klin (m :: o) x.nm = klin o x.nm := fun hx => klin_no (fun e => kfind_none hw.1 x (klin_in hx) e)
    by_cases hs : s = m.nm
    · rw [klin_yes hs] at h
      simp at h
      have hx := List.mem_of_getElem? h
      rw [Bool.eq_false_iff]
      intro e
      obtain ⟨k, hk, he⟩ := ksubK_true.1 e
      rw [key hx] at hk
      exact kfind_none hw.1 k (klin_in hk) (he.trans hs)
    · rw [klin_no hs] at h
      have hx := List.mem_of_getElem? h
      have ih := ksub_back hw.2.2 h
      unfold ksubK at ih ⊢
      rw [key hx]
      exact ih
theorem kref_ok {R : List KD} {k : KD} (h : krefZ R k = 0) : kfind R k.nm = none ∧ R.length < 32 ∧ ∃ m, kfind R k.sup = some m := by
  unfold krefZ at h
  split at h
  case isFalse hr => exact absurd h hr
  split at h
  · cases h
  · split at h
    · cases h
    · split at h
      · cases h
      · rename_i h2 h3 h4
        refine ⟨?_, by omega, ?_⟩
        · cases e : kfind R k.nm with
          | none => rfl
          | some m => rw [e] at h2; simp at h2
        · cases e : kfind R k.sup with
          | none => rw [e] at h4; simp at h4
          | some m => exact ⟨m, rfl⟩
theorem KWf.add {R : List KD} {k : KD} (hw : KWf R) (h : krefZ R k = 0) : KWf (k :: R) := ⟨(kref_ok h).1, .inr (kref_ok h).2.2, hw⟩
def kwfB : List KD → Bool
  | [] => true
  | k :: o => (kfind o k.nm).isNone && ((o.isEmpty && (k.nm == objectN)) || (kfind o k.sup).isSome) && kwfB o
theorem kwf_of : ∀ {R : List KD}, kwfB R = true → KWf R
  | [], _ => trivial
  | k :: o, h => by
    unfold kwfB at h
    simp only [Bool.and_eq_true, Bool.or_eq_true] at h
    obtain ⟨⟨h1, h2⟩, h3⟩ := h
    refine ⟨Option.isNone_iff_eq_none.1 h1, ?_, kwf_of h3⟩
    rcases h2 with ⟨h2, h4⟩ | h2
    · exact .inl ⟨List.isEmpty_iff.1 h2, beq_true.1 h4⟩
    · exact .inr (Option.isSome_iff_exists.1 h2)
theorem kwf_given : KWf givenK.reverse := kwf_of (by decide +kernel)
end Go.Proofs.YtbmfkbgncjldjabGreat.K
