/- Field, Method. -/
import Derived.Test.YtknppdpcgdncdaaKT
namespace Go.Proofs.Ytknppdpcgdncdaa.K
open Go.RowKit Q Q.D

theorem op_store_row {P : Program} {ops : Array Oper} {o : Oper} {a : Act} {w : World} {K : Act → World → Prop} {Q : Exit → Act → World → Prop} {E : Prop} (hgd : o.guard = none) (ty : TypeId) (x y : Operand) (ho : o.op = .store ty x y)
    (g : Nat) (cells : Array Value) (hx : a.eval x = .pointer (some ⟨g, 0, none⟩)) (hy : a.eval y = .agg cells)
    (t : TypeId) (old : Array Value) (hg : w.heap[g]? = some (.cells old t (0, 0))) (hi : (P.info? ty).map (·.size) = some cells.size)
    (hold : old.size = cells.size) (h1 : cells.all (·.oneCell') = true) (h : K (a.put o.dst undef) (w.setRow g cells)) :
    if Region.wanted o (yielded ops a.tmps) = true then Oper.wp P o a w K Q else E := by
  rw [if_pos (by simp [Region.wanted, hgd])]
  exact wp_store_row ty x y ho g cells hx hy t old hg hi hold h1 h
theorem lin_sub : ∀ {R : List Mem} {s : ByteArray} {m : Mem}, m ∈ lin R s → m ∈ R
  | [], _, _, h => by simp [lin] at h
  | x :: R, s, m, h => by
    unfold lin at h
    split at h
    · rcases List.mem_cons.1 h with rfl | h
      · simp
      · simp [lin_sub h]
    · simp [lin_sub h]
def FieldIs (R : List Mem) (cls nm ds : ByteArray) (e : Ending) : Prop :=
  match near (qF nm ds) (lin R cls) with
  | none => e = .returned (.tuple #[.string ⟨#[]⟩, .agg #[.string ⟨#[]⟩, .string ⟨#[]⟩, .bool false], .bool false])
  | some m => ∃ f, m.k.fs.find? (isF nm ds) = some f ∧ e = .returned (.tuple #[.string m.k.nm, .agg #[.string f.nm, .string f.ds, .bool f.st], .bool true])
def MethIs (R : List Mem) (cls nm ds : ByteArray) (w w' : World) (e : Ending) : Prop :=
  match near (qM nm ds) (lin R cls) with
  | none => e = .returned (.tuple #[.string ⟨#[]⟩, .agg #[.string ⟨#[]⟩, .string ⟨#[]⟩, .bool false, .bool false, .int .i64 0, .int .i64 0, .slice none 0 0, .slice none 0 0, .slice none 0 0], .bool false])
  | some m => ∃ y row', m.k.ms.find? (isM nm ds) = some y ∧ e = .returned (.tuple #[.string m.k.nm, .agg (row' : List Value).toArray, .bool true]) ∧ MethR (seen (newB w.heap.size) w') row' y

set_option maxRecDepth 8000 in
set_option maxHeartbeats 4000000 in
theorem field_find (w : World) (pk : Nat) (R : List Mem) (mb : Nat) (ao : Option Addr) (c : Nat) (h : KinV w pk R mb ao c) (cls nm ds : ByteArray) :
    Calls Try.prog 14 #[.pointer (some ⟨pk, 0, none⟩), .string cls, .string nm, .string ds] w fun e w' => Below w.heap.size w w' ∧ FieldIs R cls nm ds e := by
  have B1 := balloc w (.cells #[.string ⟨#[]⟩, .string ⟨#[]⟩, .bool false] 36)
  have h1 := h.below B1
  have hl := h1.look cls
  have e1 := h1.e1
  have Y1 := Blk.new w #[.string ⟨#[]⟩, .string ⟨#[]⟩, .bool false] 36
  have hch := h1.mems.chain cls
  have hN := D.hidIt (nearest_any 33 (enters_of Try.func33 (by kernel_rfl) rfl) (qF nm ds) nm ds _ _ _ hch (fun W m ab h => mfield_any m ab nm ds W h))
  unfold FieldIs
  unfold nearN at hN
  cases hn : near (qF nm ds) (lin R cls) with
  | none =>
    rw [hn] at hN
    generalize mfind R cls = p at *
    simp only [ptr] at hN
    go_enter Try.func14, Try.ntmps14
    go_wp2_with fail
    generalize w.alloc (.cells #[.string ⟨#[]⟩, .string ⟨#[]⟩, .bool false] 36) = W1 at *
    refine hN.out.mono ?_
    rintro e w2 ⟨rfl, b2⟩
    have Y2 := Y1.below b2
    go_wp2_with (refine wpList_store_row rfl 36 _ _ rfl w.heap.size #[.string ⟨#[]⟩, .string ⟨#[]⟩, .bool false] rfl rfl 36 _ Y2 (by kernel_rfl) rfl (by simp [Value.oneCell']) ?_)
    refine bodyPost_ret (results_mid rfl _ _ w.heap.size 36 _ (0, 0) _ rfl (setRow_heap _ _ _ _ _ _ Y2) Try.underlying36 rfl (by kernel_rfl)) rfl ?_
    exact ⟨below_row (next B1 b2) (Nat.le_refl _) _, rfl⟩
  | some m =>
    rw [hn] at hN
    obtain ⟨hmem, hq⟩ := near_some hn
    obtain ⟨jj, f, hj, hy, hf⟩ := ixZ_at hq
    simp only [ptr] at hN
    rw [show qF nm ds m = (jj : Int) from hj] at hN
    generalize mfind R cls = p at *
    go_enter Try.func14, Try.ntmps14
    go_wp2_with fail
    generalize w.alloc (.cells #[.string ⟨#[]⟩, .string ⟨#[]⟩, .bool false] 36) = W1 at *
    refine hN.out.mono ?_
    rintro e w2 ⟨rfl, b2⟩
    have Y2 := Y1.below b2
    obtain ⟨ab, a1, q1, a2, q2, a3, q3, hm⟩ := (hch.ext (ext_below b2)).at m hmem
    have e0 := hm.e0
    have e3 := hm.e3
    have hlen : jj < m.k.fs.length := (List.getElem?_eq_some_iff.1 hy).1
    have hlen' : (jj : Int) < (m.k.fs.length : Int) := by omega
    obtain ⟨_, _, rows, h3, h4⟩ := hm.k2
    obtain ⟨b, off, rfl, hlt, hc⟩ := h3 (by omega)
    have hr := (h4 jj f hy).1
    have f0 := hc jj hlen 0 (.string f.nm) (by rw [hr]; rfl)
    have f1 := hc jj hlen 1 (.string f.ds) (by rw [hr]; rfl)
    have f2 := hc jj hlen 2 (.bool f.st) (by rw [hr]; rfl)
    simp only [Nat.add_zero] at f0
    have g0 := Y2.cell 0
    have g1 := Y2.cell 1
    have g2 := Y2.cell 2
    have z0 := Y2.frozen 0
    have z1 := Y2.frozen 1
    have z2 := Y2.frozen 2
    simp at g0 g1 g2
    have Y3 := ((Y2.set 0 (.string f.nm)).set 1 (.string f.ds)).set 2 (.bool f.st)
    have B3 := below_set (below_set (below_set (next B1 b2) (Nat.le_refl _) 0 (.string f.nm)) (Nat.le_refl _) 1 (.string f.ds)) (Nat.le_refl _) 2 (.bool f.st)
    have fin := D.hidIt (⟨B3, f, hf, rfl⟩ : Below w.heap.size w (((w2.setCell ⟨w.heap.size, 0, none⟩ (.string f.nm)).setCell ⟨w.heap.size, 1, none⟩ (.string f.ds)).setCell ⟨w.heap.size, 2, none⟩ (.bool f.st)) ∧ ∃ f', m.k.fs.find? (isF nm ds) = some f' ∧ Ending.returned (.tuple #[.string m.k.nm, .agg #[.string f.nm, .string f.ds, .bool f.st], .bool true]) = .returned (.tuple #[.string m.k.nm, .agg #[.string f'.nm, .string f'.ds, .bool f'.st], .bool true]))
    clear hm hc h3 h4 hr hf hy hj hq hmem hn
    go_wp2_with fail
    go_region
    all_goals go_wp2
    all_goals
      refine bodyPost_ret (results_mid rfl _ _ w.heap.size 36 _ (0, 0) _ rfl Y3 Try.underlying36 rfl (by kernel_rfl)) rfl ?_
      exact ⟨fin.out.1.drew, fin.out.2⟩
set_option maxRecDepth 8000 in
set_option maxHeartbeats 4000000 in
theorem meth_find (w : World) (pk : Nat) (R : List Mem) (mb : Nat) (ao : Option Addr) (c : Nat) (h : KinV w pk R mb ao c) (hsm : ∀ m ∈ R, KSm m.k) (cls nm ds : ByteArray) :
    Calls Try.prog 15 #[.pointer (some ⟨pk, 0, none⟩), .string cls, .string nm, .string ds] w fun e w' => Below w.heap.size w w' ∧ MethIs R cls nm ds w w' e := by
  have B1 := balloc w (.cells #[.string ⟨#[]⟩, .string ⟨#[]⟩, .bool false, .bool false, .int .i64 0, .int .i64 0, .slice none 0 0, .slice none 0 0, .slice none 0 0] 41)
  have h1 := h.below B1
  have hl := h1.look cls
  have e1 := h1.e1
  have Y1 := Blk.new w #[.string ⟨#[]⟩, .string ⟨#[]⟩, .bool false, .bool false, .int .i64 0, .int .i64 0, .slice none 0 0, .slice none 0 0, .slice none 0 0] 41
  have hch := h1.mems.chain cls
  have hN := D.hidIt (nearest_any 34 (enters_of Try.func34 (by kernel_rfl) rfl) (qM nm ds) nm ds _ _ _ hch (fun W m ab h => mmeth_any m ab nm ds W h))
  unfold MethIs
  unfold nearN at hN
  cases hn : near (qM nm ds) (lin R cls) with
  | none =>
    rw [hn] at hN
    generalize mfind R cls = p at *
    simp only [ptr] at hN
    go_enter Try.func15, Try.ntmps15
    go_wp2_with fail
    generalize w.alloc (.cells #[.string ⟨#[]⟩, .string ⟨#[]⟩, .bool false, .bool false, .int .i64 0, .int .i64 0, .slice none 0 0, .slice none 0 0, .slice none 0 0] 41) = W1 at *
    refine hN.out.mono ?_
    rintro e w2 ⟨rfl, b2⟩
    have Y2 := Y1.below b2
    go_wp2_with (refine wpList_store_row rfl 41 _ _ rfl w.heap.size #[.string ⟨#[]⟩, .string ⟨#[]⟩, .bool false, .bool false, .int .i64 0, .int .i64 0, .slice none 0 0, .slice none 0 0, .slice none 0 0] rfl rfl 41 _ Y2 (by kernel_rfl) rfl (by simp [Value.oneCell']) ?_)
    refine bodyPost_ret (results_mid rfl _ _ w.heap.size 41 _ (0, 0) _ rfl (setRow_heap _ _ _ _ _ _ Y2) Try.underlying41 rfl (by kernel_rfl)) rfl ?_
    exact ⟨below_row (next B1 b2) (Nat.le_refl _) _, rfl⟩
  | some m =>
    rw [hn] at hN
    obtain ⟨hmem, hq⟩ := near_some hn
    obtain ⟨jj, y, hj, hy, hf⟩ := ixZ_at hq
    have hmR := lin_sub hmem
    simp only [ptr] at hN
    rw [show qM nm ds m = (jj : Int) from hj] at hN
    generalize mfind R cls = p at *
    go_enter Try.func15, Try.ntmps15
    go_wp2_with fail
    generalize w.alloc (.cells #[.string ⟨#[]⟩, .string ⟨#[]⟩, .bool false, .bool false, .int .i64 0, .int .i64 0, .slice none 0 0, .slice none 0 0, .slice none 0 0] 41) = W1 at *
    refine hN.out.mono ?_
    rintro e w2 ⟨rfl, b2⟩
    have Y2 := Y1.below b2
    obtain ⟨ab, a1, q1, a2, q2, a3, q3, hm⟩ := h.mems.at m hmR
    have B2 := next B1 b2
    have hmb := World.block_lt_of_cell? _ _ hm.e0
    have e0 := cell_later B2 hm.e0
    have e4 := cell_later B2 hm.e4
    have hlen : jj < m.k.ms.length := (List.getElem?_eq_some_iff.1 hy).1
    have hlen' : (jj : Int) < (m.k.ms.length : Int) := by omega
    obtain ⟨_, _, rows, h3, h4⟩ := hm.k3
    obtain ⟨b, off, rfl, hlt, hc⟩ := h3 (by omega)
    have hM := h4 jj y hy
    have hcp := D.hidIt (copyM y (rows jj) w2.drew (hM.below B2.drew) ((hsm m hmR).2.2.2 y (List.mem_of_getElem? hy)))
    obtain ⟨d1, t1, d2, t2, d3, t3, hr, _⟩ := hM
    rw [hr] at hcp
    have f0 := cell_later B2 (hc jj hlen 0 (.string y.nm) (by rw [hr]; rfl))
    have f1 := cell_later B2 (hc jj hlen 1 (.string y.ds) (by rw [hr]; rfl))
    have f2 := cell_later B2 (hc jj hlen 2 (.bool y.st) (by rw [hr]; rfl))
    have f3 := cell_later B2 (hc jj hlen 3 (.bool y.nat) (by rw [hr]; rfl))
    have f4 := cell_later B2 (hc jj hlen 4 (.int .i64 y.stk) (by rw [hr]; rfl))
    have f5 := cell_later B2 (hc jj hlen 5 (.int .i64 y.loc) (by rw [hr]; rfl))
    have f6 := cell_later B2 (hc jj hlen 6 (.slice d1 y.code.length t1) (by rw [hr]; rfl))
    have f7 := cell_later B2 (hc jj hlen 7 (.slice d2 y.hs.length t2) (by rw [hr]; rfl))
    have f8 := cell_later B2 (hc jj hlen 8 (.slice d3 y.rs.length t3) (by rw [hr]; rfl))
    simp only [Nat.add_zero] at f0
    have HS1 := D.hidIt (⟨e0, e4, f0, f1, f2, f3, f4, f5, f6, f7, f8⟩ : (fun X => X.cell? ⟨m.b, 0, none⟩ = some (.string m.k.nm) ∧ X.cell? ⟨m.b, 4, none⟩ = some (.slice (some ⟨b, off, none⟩) m.k.ms.length q3) ∧ X.cell? ⟨b, off + jj * 9, none⟩ = some (.string y.nm) ∧ X.cell? ⟨b, off + jj * 9 + 1, none⟩ = some (.string y.ds) ∧ X.cell? ⟨b, off + jj * 9 + 2, none⟩ = some (.bool y.st) ∧ X.cell? ⟨b, off + jj * 9 + 3, none⟩ = some (.bool y.nat) ∧ X.cell? ⟨b, off + jj * 9 + 4, none⟩ = some (.int .i64 y.stk) ∧ X.cell? ⟨b, off + jj * 9 + 5, none⟩ = some (.int .i64 y.loc) ∧ X.cell? ⟨b, off + jj * 9 + 6, none⟩ = some (.slice d1 y.code.length t1) ∧ X.cell? ⟨b, off + jj * 9 + 7, none⟩ = some (.slice d2 y.hs.length t2) ∧ X.cell? ⟨b, off + jj * 9 + 8, none⟩ = some (.slice d3 y.rs.length t3)) w2)
    have SB : ∀ (X Y : World), Below X.heap.size X Y → (fun X => X.cell? ⟨m.b, 0, none⟩ = some (.string m.k.nm) ∧ X.cell? ⟨m.b, 4, none⟩ = some (.slice (some ⟨b, off, none⟩) m.k.ms.length q3) ∧ X.cell? ⟨b, off + jj * 9, none⟩ = some (.string y.nm) ∧ X.cell? ⟨b, off + jj * 9 + 1, none⟩ = some (.string y.ds) ∧ X.cell? ⟨b, off + jj * 9 + 2, none⟩ = some (.bool y.st) ∧ X.cell? ⟨b, off + jj * 9 + 3, none⟩ = some (.bool y.nat) ∧ X.cell? ⟨b, off + jj * 9 + 4, none⟩ = some (.int .i64 y.stk) ∧ X.cell? ⟨b, off + jj * 9 + 5, none⟩ = some (.int .i64 y.loc) ∧ X.cell? ⟨b, off + jj * 9 + 6, none⟩ = some (.slice d1 y.code.length t1) ∧ X.cell? ⟨b, off + jj * 9 + 7, none⟩ = some (.slice d2 y.hs.length t2) ∧ X.cell? ⟨b, off + jj * 9 + 8, none⟩ = some (.slice d3 y.rs.length t3)) X → (fun X => X.cell? ⟨m.b, 0, none⟩ = some (.string m.k.nm) ∧ X.cell? ⟨m.b, 4, none⟩ = some (.slice (some ⟨b, off, none⟩) m.k.ms.length q3) ∧ X.cell? ⟨b, off + jj * 9, none⟩ = some (.string y.nm) ∧ X.cell? ⟨b, off + jj * 9 + 1, none⟩ = some (.string y.ds) ∧ X.cell? ⟨b, off + jj * 9 + 2, none⟩ = some (.bool y.st) ∧ X.cell? ⟨b, off + jj * 9 + 3, none⟩ = some (.bool y.nat) ∧ X.cell? ⟨b, off + jj * 9 + 4, none⟩ = some (.int .i64 y.stk) ∧ X.cell? ⟨b, off + jj * 9 + 5, none⟩ = some (.int .i64 y.loc) ∧ X.cell? ⟨b, off + jj * 9 + 6, none⟩ = some (.slice d1 y.code.length t1) ∧ X.cell? ⟨b, off + jj * 9 + 7, none⟩ = some (.slice d2 y.hs.length t2) ∧ X.cell? ⟨b, off + jj * 9 + 8, none⟩ = some (.slice d3 y.rs.length t3)) Y := fun _ _ hb hx => ⟨cell_later hb hx.1, cell_later hb hx.2.1, cell_later hb hx.2.2.1, cell_later hb hx.2.2.2.1, cell_later hb hx.2.2.2.2.1, cell_later hb hx.2.2.2.2.2.1, cell_later hb hx.2.2.2.2.2.2.1, cell_later hb hx.2.2.2.2.2.2.2.1, cell_later hb hx.2.2.2.2.2.2.2.2.1, cell_later hb hx.2.2.2.2.2.2.2.2.2.1, cell_later hb hx.2.2.2.2.2.2.2.2.2.2⟩
    have SR : ∀ (X : World) (cs : Array Value), (fun X => X.cell? ⟨m.b, 0, none⟩ = some (.string m.k.nm) ∧ X.cell? ⟨m.b, 4, none⟩ = some (.slice (some ⟨b, off, none⟩) m.k.ms.length q3) ∧ X.cell? ⟨b, off + jj * 9, none⟩ = some (.string y.nm) ∧ X.cell? ⟨b, off + jj * 9 + 1, none⟩ = some (.string y.ds) ∧ X.cell? ⟨b, off + jj * 9 + 2, none⟩ = some (.bool y.st) ∧ X.cell? ⟨b, off + jj * 9 + 3, none⟩ = some (.bool y.nat) ∧ X.cell? ⟨b, off + jj * 9 + 4, none⟩ = some (.int .i64 y.stk) ∧ X.cell? ⟨b, off + jj * 9 + 5, none⟩ = some (.int .i64 y.loc) ∧ X.cell? ⟨b, off + jj * 9 + 6, none⟩ = some (.slice d1 y.code.length t1) ∧ X.cell? ⟨b, off + jj * 9 + 7, none⟩ = some (.slice d2 y.hs.length t2) ∧ X.cell? ⟨b, off + jj * 9 + 8, none⟩ = some (.slice d3 y.rs.length t3)) X → (fun X => X.cell? ⟨m.b, 0, none⟩ = some (.string m.k.nm) ∧ X.cell? ⟨m.b, 4, none⟩ = some (.slice (some ⟨b, off, none⟩) m.k.ms.length q3) ∧ X.cell? ⟨b, off + jj * 9, none⟩ = some (.string y.nm) ∧ X.cell? ⟨b, off + jj * 9 + 1, none⟩ = some (.string y.ds) ∧ X.cell? ⟨b, off + jj * 9 + 2, none⟩ = some (.bool y.st) ∧ X.cell? ⟨b, off + jj * 9 + 3, none⟩ = some (.bool y.nat) ∧ X.cell? ⟨b, off + jj * 9 + 4, none⟩ = some (.int .i64 y.stk) ∧ X.cell? ⟨b, off + jj * 9 + 5, none⟩ = some (.int .i64 y.loc) ∧ X.cell? ⟨b, off + jj * 9 + 6, none⟩ = some (.slice d1 y.code.length t1) ∧ X.cell? ⟨b, off + jj * 9 + 7, none⟩ = some (.slice d2 y.hs.length t2) ∧ X.cell? ⟨b, off + jj * 9 + 8, none⟩ = some (.slice d3 y.rs.length t3)) (X.setRow w.heap.size cs) := fun _ cs hx => by
      refine ⟨?_, ?_, ?_, ?_, ?_, ?_, ?_, ?_, ?_, ?_, ?_⟩ <;> rw [cell_setRow_other _ _ _ _ (by first | exact Nat.ne_of_lt hmb | exact Nat.ne_of_lt hlt)]
      · exact hx.1
      · exact hx.2.1
      · exact hx.2.2.1
      · exact hx.2.2.2.1
      · exact hx.2.2.2.2.1
      · exact hx.2.2.2.2.2.1
      · exact hx.2.2.2.2.2.2.1
      · exact hx.2.2.2.2.2.2.2.1
      · exact hx.2.2.2.2.2.2.2.2.1
      · exact hx.2.2.2.2.2.2.2.2.2.1
      · exact hx.2.2.2.2.2.2.2.2.2.2
    have HSB := D.hidIt SB
    have HSR := D.hidIt SR
    clear SB SR e0 e4 f0 f1 f2 f3 f4 f5 f6 f7 f8 hc h3 h4 hm hr
    go_wp2_with fail
    refine wp_region_noPanic ?_
    refine wp_region_held_drew (S := (fun X => X.cell? ⟨m.b, 0, none⟩ = some (.string m.k.nm) ∧ X.cell? ⟨m.b, 4, none⟩ = some (.slice (some ⟨b, off, none⟩) m.k.ms.length q3) ∧ X.cell? ⟨b, off + jj * 9, none⟩ = some (.string y.nm) ∧ X.cell? ⟨b, off + jj * 9 + 1, none⟩ = some (.string y.ds) ∧ X.cell? ⟨b, off + jj * 9 + 2, none⟩ = some (.bool y.st) ∧ X.cell? ⟨b, off + jj * 9 + 3, none⟩ = some (.bool y.nat) ∧ X.cell? ⟨b, off + jj * 9 + 4, none⟩ = some (.int .i64 y.stk) ∧ X.cell? ⟨b, off + jj * 9 + 5, none⟩ = some (.int .i64 y.loc) ∧ X.cell? ⟨b, off + jj * 9 + 6, none⟩ = some (.slice d1 y.code.length t1) ∧ X.cell? ⟨b, off + jj * 9 + 7, none⟩ = some (.slice d2 y.hs.length t2) ∧ X.cell? ⟨b, off + jj * 9 + 8, none⟩ = some (.slice d3 y.rs.length t3))) (by kernel_rfl) ?_ (fun hHeld => ?_)
    · (try dsimp only); first | exact HS1.out | exact HSB.out _ _ b3 HS1.out | exact HSR.out _ _ (HSB.out _ _ b3 HS1.out)
    refine wpAnyH_take (i := 0) (oi := { dst := some 28, op := Op.move (Operand.tmp 11), type := 64, pos := "line.go:80", after := #[], guard := none }) (v := ?vm_1) rfl (by kernel_rfl) (by kernel_rfl) (by kernel_rfl) (fun _ _ _ h => h) (Or.inl ⟨by rfl, ?hym_1⟩) (by assumption) ?restm_1
    case hym_1 => intro w hSw; (try dsimp only at hSw); go_simp; try with_reducible rfl
    try simp only [Act.put, List.setIfInBounds_toArray, List.set_cons_zero, List.set_cons_succ]
    refine wpAnyH_take (i := 1) (oi := { dst := some 29, op := Op.nilCheck (Operand.tmp 28), type := 0, pos := "line.go:80", after := #[{ on := 0, ground := Ground.data }], guard := none }) (v := ?vm_2) rfl (by kernel_rfl) (by kernel_rfl) (by kernel_rfl) (fun _ _ _ h => h) (Or.inl ⟨by rfl, ?hym_2⟩) (by assumption) ?restm_2
    case hym_2 => intro w hSw; (try dsimp only at hSw); go_simp; try with_reducible rfl
    try simp only [Act.put, List.setIfInBounds_toArray, List.set_cons_zero, List.set_cons_succ]
    refine wpAnyH_take (i := 2) (oi := { dst := some 30, op := Op.fieldAddr 70 (Operand.tmp 29) 0, type := 0, pos := "line.go:80", after := #[{ on := 1, ground := Ground.data }], guard := none }) (v := ?vm_3) rfl (by kernel_rfl) (by kernel_rfl) (by kernel_rfl) (fun _ _ _ h => h) (Or.inl ⟨by rfl, ?hym_3⟩) (by assumption) ?restm_3
    case hym_3 => intro w hSw; (try dsimp only at hSw); go_simp; try with_reducible rfl
    try simp only [Act.put, List.setIfInBounds_toArray, List.set_cons_zero, List.set_cons_succ]
    refine wpAnyH_take (i := 3) (oi := { dst := some 31, op := Op.fieldAddr 34 (Operand.tmp 30) 0, type := 0, pos := "line.go:80", after := #[{ on := 2, ground := Ground.data }], guard := none }) (v := ?vm_4) rfl (by kernel_rfl) (by kernel_rfl) (by kernel_rfl) (fun _ _ _ h => h) (Or.inl ⟨by rfl, ?hym_4⟩) (by assumption) ?restm_4
    case hym_4 => intro w hSw; (try dsimp only at hSw); go_simp; try with_reducible rfl
    try simp only [Act.put, List.setIfInBounds_toArray, List.set_cons_zero, List.set_cons_succ]
    refine wpAnyH_take (i := 4) (oi := { dst := some 32, op := Op.load 9 (Operand.tmp 31), type := 9, pos := "line.go:80", after := #[{ on := 3, ground := Ground.data }], guard := none }) (v := ?vm_5) rfl (by kernel_rfl) (by kernel_rfl) (by kernel_rfl) (fun _ _ _ h => h) (Or.inl ⟨by rfl, ?hym_5⟩) (by assumption) ?restm_5
    case hym_5 => intro w hSw; (try dsimp only at hSw); go_simp; try with_reducible rfl
    try simp only [Act.put, List.setIfInBounds_toArray, List.set_cons_zero, List.set_cons_succ]
    refine wpAnyH_take (i := 5) (oi := { dst := some 33, op := Op.move (Operand.tmp 11), type := 64, pos := "line.go:80", after := #[], guard := none }) (v := ?vm_6) rfl (by kernel_rfl) (by kernel_rfl) (by kernel_rfl) (fun _ _ _ h => h) (Or.inl ⟨by rfl, ?hym_6⟩) (by assumption) ?restm_6
    case hym_6 => intro w hSw; (try dsimp only at hSw); go_simp; try with_reducible rfl
    try simp only [Act.put, List.setIfInBounds_toArray, List.set_cons_zero, List.set_cons_succ]
    refine wpAnyH_take (i := 6) (oi := { dst := some 34, op := Op.nilCheck (Operand.tmp 33), type := 0, pos := "line.go:80", after := #[{ on := 5, ground := Ground.data }], guard := none }) (v := ?vm_7) rfl (by kernel_rfl) (by kernel_rfl) (by kernel_rfl) (fun _ _ _ h => h) (Or.inl ⟨by rfl, ?hym_7⟩) (by assumption) ?restm_7
    case hym_7 => intro w hSw; (try dsimp only at hSw); go_simp; try with_reducible rfl
    try simp only [Act.put, List.setIfInBounds_toArray, List.set_cons_zero, List.set_cons_succ]
    refine wpAnyH_take (i := 7) (oi := { dst := some 35, op := Op.fieldAddr 70 (Operand.tmp 34) 0, type := 0, pos := "line.go:80", after := #[{ on := 6, ground := Ground.data }], guard := none }) (v := ?vm_8) rfl (by kernel_rfl) (by kernel_rfl) (by kernel_rfl) (fun _ _ _ h => h) (Or.inl ⟨by rfl, ?hym_8⟩) (by assumption) ?restm_8
    case hym_8 => intro w hSw; (try dsimp only at hSw); go_simp; try with_reducible rfl
    try simp only [Act.put, List.setIfInBounds_toArray, List.set_cons_zero, List.set_cons_succ]
    refine wpAnyH_take (i := 8) (oi := { dst := some 36, op := Op.fieldAddr 34 (Operand.tmp 35) 4, type := 0, pos := "line.go:80", after := #[{ on := 7, ground := Ground.data }], guard := none }) (v := ?vm_9) rfl (by kernel_rfl) (by kernel_rfl) (by kernel_rfl) (fun _ _ _ h => h) (Or.inl ⟨by rfl, ?hym_9⟩) (by assumption) ?restm_9
    case hym_9 => intro w hSw; (try dsimp only at hSw); go_simp; try with_reducible rfl
    try simp only [Act.put, List.setIfInBounds_toArray, List.set_cons_zero, List.set_cons_succ]
    refine wpAnyH_take (i := 9) (oi := { dst := some 37, op := Op.load 32 (Operand.tmp 36), type := 32, pos := "line.go:80", after := #[{ on := 8, ground := Ground.data }], guard := none }) (v := ?vm_10) rfl (by kernel_rfl) (by kernel_rfl) (by kernel_rfl) (fun _ _ _ h => h) (Or.inl ⟨by rfl, ?hym_10⟩) (by assumption) ?restm_10
    case hym_10 => intro w hSw; (try dsimp only at hSw); go_simp; try with_reducible rfl
    try simp only [Act.put, List.setIfInBounds_toArray, List.set_cons_zero, List.set_cons_succ]
    refine wpAnyH_take (i := 10) (oi := { dst := some 38, op := Op.move (Operand.tmp 12), type := 3, pos := "line.go:80", after := #[], guard := none }) (v := ?vm_11) rfl (by kernel_rfl) (by kernel_rfl) (by kernel_rfl) (fun _ _ _ h => h) (Or.inl ⟨by rfl, ?hym_11⟩) (by assumption) ?restm_11
    case hym_11 => intro w hSw; (try dsimp only at hSw); go_simp; try with_reducible rfl
    try simp only [Act.put, List.setIfInBounds_toArray, List.set_cons_zero, List.set_cons_succ]
    refine wpAnyH_take (i := 11) (oi := { dst := some 39, op := Op.indexAddr 32 (Operand.tmp 37) (Operand.tmp 38), type := 0, pos := "line.go:80", after := #[{ on := 9, ground := Ground.data }, { on := 10, ground := Ground.data }], guard := none }) (v := ?vm_12) rfl (by kernel_rfl) (by kernel_rfl) (by kernel_rfl) (fun _ _ _ h => h) (Or.inl ⟨by rfl, ?hym_12⟩) (by assumption) ?restm_12
    case hym_12 => intro w hSw; (try dsimp only at hSw); go_simp; try with_reducible rfl
    try simp only [Act.put, List.setIfInBounds_toArray, List.set_cons_zero, List.set_cons_succ]
    refine wpAnyH_take (i := 12) (oi := { dst := some 40, op := Op.load 41 (Operand.tmp 39), type := 41, pos := "line.go:80", after := #[{ on := 11, ground := Ground.data }], guard := none }) (v := ?vm_13) rfl (by kernel_rfl) (by kernel_rfl) (by kernel_rfl) (fun _ _ _ h => h) (Or.inl ⟨by rfl, ?hym_13⟩) (by assumption) ?restm_13
    case hym_13 => intro w hSw; (try dsimp only at hSw); go_simp; try with_reducible rfl
    try simp only [Act.put, List.setIfInBounds_toArray, List.set_cons_zero, List.set_cons_succ]
    refine wpAnyH_ready (rs := [13]) (by kernel_rfl) (by simp) ?_
    refine AllReadyH.cons (o := { dst := some 41, op := Op.call { callee := Callee.value (Operand.func 35), args := #[Operand.tmp 40], argTypes := #[41] }, type := 41, pos := "line.go:80", after := #[{ on := 12, ground := Ground.data }], guard := none }) rfl (fun K hK => ?_) AllReadyH.nil
    go_simp
    refine hcp.out.mono ?_
    rintro e w3 ⟨b3, row3, rfl, hM3'⟩
    have hM3 := hM3'
    obtain ⟨h1, j1, h2, j2, h3, j3, rfl, _⟩ := hM3'
    have Y3 : Blk w3 w.heap.size #[.string ⟨#[]⟩, .string ⟨#[]⟩, .bool false, .bool false, .int .i64 0, .int .i64 0, .slice none 0 0, .slice none 0 0, .slice none 0 0] 41 := Blk.below (show Blk w2.drew w.heap.size _ _ from Y2) b3
    try go_wp2_with fail
    refine hK.out _ _ ?hSm_14 ?restm_14
    case hSm_14 => (try dsimp only); first | exact HS1.out | exact HSB.out _ _ b3 HS1.out | exact HSR.out _ _ (HSB.out _ _ b3 HS1.out)
    clear hK K hHeld
    intro hHeld
    try simp only [Act.put, List.setIfInBounds_toArray, List.set_cons_zero, List.set_cons_succ]
    refine wpAnyH_take (i := 14) (oi := { dst := some 8, op := Op.assign (Operand.tmp 32), type := 9, pos := "line.go:80", after := #[{ on := 4, ground := Ground.data }, { on := 13, ground := Ground.chain }, { on := 0, ground := Ground.phase }, { on := 1, ground := Ground.phase }, { on := 2, ground := Ground.phase }, { on := 3, ground := Ground.phase }, { on := 4, ground := Ground.phase }, { on := 5, ground := Ground.textOnly Departure.lateStores }, { on := 6, ground := Ground.textOnly Departure.lateStores }, { on := 7, ground := Ground.textOnly Departure.lateStores }, { on := 8, ground := Ground.textOnly Departure.lateStores }, { on := 9, ground := Ground.textOnly Departure.lateStores }, { on := 10, ground := Ground.textOnly Departure.lateStores }, { on := 11, ground := Ground.textOnly Departure.lateStores }, { on := 12, ground := Ground.textOnly Departure.lateStores }, { on := 13, ground := Ground.textOnly Departure.lateStoresUnsure }], guard := none }) (v := ?vm_15) rfl (by kernel_rfl) (by kernel_rfl) (by kernel_rfl) (fun _ _ _ h => h) (Or.inl ⟨by rfl, ?hym_15⟩) (by assumption) ?restm_15
    case hym_15 => intro w hSw; (try dsimp only at hSw); go_simp; try with_reducible rfl
    try simp only [Act.put, List.setIfInBounds_toArray, List.set_cons_zero, List.set_cons_succ]
    refine wpAnyH_ready (rs := [15]) (by kernel_rfl) (by simp) ?_
    refine AllReadyH.cons (o := { dst := none, op := Op.store 41 (Operand.tmp 9) (Operand.tmp 41), type := 0, pos := "line.go:80", after := #[{ on := 13, ground := Ground.data }, { on := 14, ground := Ground.chain }, { on := 0, ground := Ground.phase }, { on := 1, ground := Ground.phase }, { on := 2, ground := Ground.phase }, { on := 3, ground := Ground.phase }, { on := 4, ground := Ground.phase }, { on := 5, ground := Ground.phase }, { on := 6, ground := Ground.phase }, { on := 7, ground := Ground.phase }, { on := 8, ground := Ground.phase }, { on := 9, ground := Ground.phase }, { on := 10, ground := Ground.phase }, { on := 11, ground := Ground.phase }, { on := 12, ground := Ground.phase }, { on := 13, ground := Ground.phase }, { on := 14, ground := Ground.phase }], guard := none }) rfl (fun K hK => ?_) AllReadyH.nil
    refine op_store_row rfl 41 _ _ rfl w.heap.size #[.string y.nm, .string y.ds, .bool y.st, .bool y.nat, .int .i64 y.stk, .int .i64 y.loc, .slice h1 y.code.length j1, .slice h2 y.hs.length j2, .slice h3 y.rs.length j3] rfl rfl 41 _ Y3 (by kernel_rfl) rfl (by simp [Value.oneCell']) ?_
    refine hK.out _ _ ?hSm_16 ?restm_16
    case hSm_16 => (try dsimp only); first | exact HS1.out | exact HSB.out _ _ b3 HS1.out | exact HSR.out _ _ (HSB.out _ _ b3 HS1.out)
    clear hK K hHeld
    intro hHeld
    try simp only [Act.put]
    refine wpAnyH_take (i := 16) (oi := { dst := some 10, op := Op.assign (Operand.const (Value.bool true)), type := 4, pos := "line.go:80", after := #[{ on := 15, ground := Ground.chain }, { on := 0, ground := Ground.phase }, { on := 1, ground := Ground.phase }, { on := 2, ground := Ground.phase }, { on := 3, ground := Ground.phase }, { on := 4, ground := Ground.phase }, { on := 5, ground := Ground.phase }, { on := 6, ground := Ground.phase }, { on := 7, ground := Ground.phase }, { on := 8, ground := Ground.phase }, { on := 9, ground := Ground.phase }, { on := 10, ground := Ground.phase }, { on := 11, ground := Ground.phase }, { on := 12, ground := Ground.phase }, { on := 13, ground := Ground.phase }, { on := 14, ground := Ground.phase }, { on := 15, ground := Ground.phase }], guard := none }) (v := ?vm_17) rfl (by kernel_rfl) (by kernel_rfl) (by kernel_rfl) (fun _ _ _ h => h) (Or.inl ⟨by rfl, ?hym_17⟩) (by assumption) ?restm_17
    case hym_17 => intro w hSw; (try dsimp only at hSw); go_simp; try with_reducible rfl
    try simp only [Act.put, List.setIfInBounds_toArray, List.set_cons_zero, List.set_cons_succ]
    refine wpAnyH_done (by kernel_rfl) ?_ _
    refine NoPanic.normal ?_
    go_wp2_with fail
    refine bodyPost_ret (results_mid rfl _ _ w.heap.size 41 _ (0, 0) _ rfl (setRow_heap _ _ _ _ _ _ Y3) Try.underlying41 rfl (by kernel_rfl)) rfl ?_
    have Eb : Ext (seen (newB w2.drew.heap.size) w3) (seen (newB w.heap.size) (w3.setRow w.heap.size #[.string y.nm, .string y.ds, .bool y.st, .bool y.nat, .int .i64 y.stk, .int .i64 y.loc, .slice h1 y.code.length j1, .slice h2 y.hs.length j2, .slice h3 y.rs.length j3])) :=
      seen_mono (by simp [World.setRow]) (fun b _ hb => by
        simp only [newB, decide_eq_true_eq] at hb
        have h1 := B2.size
        have h2 := Y2.lt
        have h3 : w2.drew.heap.size = w2.heap.size := rfl
        exact ⟨by simp [newB]; omega, setRow_other _ _ _ _ (by omega)⟩)
    exact ⟨below_row (next B2 (next (Below.refl _ w2).drew b3)) (Nat.le_refl _) _, y, _, hf, rfl, MethR.ext Eb hM3⟩
end Go.Proofs.Ytknppdpcgdncdaa.K
