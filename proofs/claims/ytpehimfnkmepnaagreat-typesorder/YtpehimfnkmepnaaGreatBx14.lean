import Derived.Test.YtpehimfnkmepnaaGreatBx13
set_option maxRecDepth 8000
set_option maxHeartbeats 40000000
namespace Go.Proofs.YtpehimfnkmepnaaGreat.K
open Go.RowKit Go.ChangeMaps Q Q.D
def zSb (R : List Mem) (i : Nat) : Prop := R.reverse.map Mem.k = zBd.take i
theorem zRu {R : List Mem} {s : ByteArray} (h : ∀ m ∈ R, (s == m.k.nm) = false) : zBm R s = none := by
 induction R with
 | nil => rfl
 | cons m o ih =>
   unfold zBm
   rw [h m (by simp)]
   exact ih (fun x hx => h x (by simp [hx]))
theorem zNk : zBd.Pairwise (fun a b => (b.nm == a.nm) = false) := by decide
theorem zNg (w : World) : Calls Tryz.prog 9 #[] w fun e w' => ∃ pk mb v R, e = .returned (.pointer (some ⟨pk, 0, none⟩)) ∧ KinO w.heap.size w' pk mb v R ∧ R.reverse.map Mem.k = zBd ∧ Below w.heap.size w w' := by
 have hmm := @run_makeMap Tryz.prog
 go_enter Tryz.func9, Tryz.ntmps9
 go_wp2_with fail
 have K2 : KinO w.heap.size ((w.alloc (.map #[] 0)).alloc (.cells #[.slice none 0 0, .map (some w.heap.size)] 99)) (w.heap.size + 1) w.heap.size (.slice none 0 0) [] := by
  have hb := Blk.new (w.alloc (.map #[] 0)) #[.slice none 0 0, .map (some w.heap.size)] 99
  rw [World.size_alloc] at hb
  exact ⟨by omega, Nat.le_refl _, hb, World.ownsRow_nil _ _ _ _, ⟨#[], 0, (Below.heap_alloc _ _ _ (by simp)).trans (World.alloc_heap_new w _), rfl⟩, trivial⟩
 have B2 : Below w.heap.size w ((w.alloc (.map #[] 0)).alloc (.cells #[.slice none 0 0, .map (some w.heap.size)] 99)) := ((Below.refl _ w).alloc (Nat.le_refl _) _).alloc (by simp) _
 have hs2 : w.heap.size + 1 < ((w.alloc (.map #[] 0)).alloc (.cells #[.slice none 0 0, .map (some w.heap.size)] 99)).heap.size := by simp
 generalize (w.alloc (.map #[] 0)).alloc (.cells #[.slice none 0 0, .map (some w.heap.size)] 99) = W2 at *
 refine (zSr W2).mono ?_
 rintro e w3 ⟨v, rows, rfl, I⟩
 obtain ⟨gv, cv, rfl⟩ := zBs I.o (by decide)
 rw [show zBd.length = 13 from rfl] at *
 have hgv := I.o.lt gv rfl
 have hs3 := I.B.size
 clear hmm
 go_wp2_with fail
 go_loopw [9] (fun iv wr => ∃ (i : Nat) (vn : Value) (R : List Mem), iv = .int .i64 (i : Int) ∧ i ≤ 13 ∧ KinO w.heap.size wr (w.heap.size + 1) w.heap.size vn R ∧ zSb R i ∧ Below w.heap.size w wr ∧ (w3.heap.size ≤ wr.heap.size ∧ ∀ b, W2.heap.size ≤ b → b < w3.heap.size → wr.heap[b]? = w3.heap[b]?) ∧ ∀ g, vn.ownBlock = some g → w3.heap.size ≤ g) (fun iv _ => 13 - (intOf iv).toNat)
 case atStart => exact ⟨0, _, [], rfl, by omega, K2.below I.B, rfl, next B2 I.B, ⟨Nat.le_refl _, fun _ _ _ => rfl⟩, fun g hg => by simp [Value.ownBlock] at hg⟩
 case round =>
  obtain ⟨i, vn, R, rfl, hi, KO, hG, B, ⟨hsz, hbl⟩, hvn⟩ := hrel
  clear K2
  by_cases hlt : i < 13
  · have hlt' : (i : Int) < 13 := by omega
    obtain ⟨k, hk⟩ : ∃ k, zBd[i]? = some k := ⟨_, List.getElem?_eq_getElem (show i < zBd.length from hlt)⟩
    have hC := I.r i k hk
    have hC' := hC
    obtain ⟨o1, c1, o2, c2, o3, c3, hr, -⟩ := hC'
    simp only [Value.agg.injEq] at hr
    have hrow : rows i = [.string k.nm, .string k.sup, .slice o1 k.pool.length c1, .slice o2 k.fs.length c2, .slice o3 k.ms.length c3] := by
     have := congrArg Array.toList hr
     simpa using this
    have hcell : ∀ t, t < 5 → wr.cell? ⟨gv, i * 5 + t, none⟩ = (rows i)[t]? := fun t ht => by
     have h1 := I.o.cellAt (i * 5 + t) (by omega)
     rw [zA9 I.k i hlt t ht] at h1
     rw [← h1]
     unfold World.cell?
     rw [hbl gv hgv.1 hgv.2]
    have d0 : wr.cell? ⟨gv, i * 5, none⟩ = some (.string k.nm) := (hcell 0 (by omega)).trans (by rw [hrow]; rfl)
    have d1 : wr.cell? ⟨gv, i * 5 + 1, none⟩ = some (.string k.sup) := (hcell 1 (by omega)).trans (by rw [hrow]; rfl)
    have d2 : wr.cell? ⟨gv, i * 5 + 2, none⟩ = some (.slice o1 k.pool.length c1) := (hcell 2 (by omega)).trans (by rw [hrow]; rfl)
    have d3 : wr.cell? ⟨gv, i * 5 + 3, none⟩ = some (.slice o2 k.fs.length c2) := (hcell 3 (by omega)).trans (by rw [hrow]; rfl)
    have d4 : wr.cell? ⟨gv, i * 5 + 4, none⟩ = some (.slice o3 k.ms.length c3) := (hcell 4 (by omega)).trans (by rw [hrow]; rfl)
    have hnew : zBm R k.nm = none := zRu (fun m hm => by
     have h1 : m.k ∈ zBd.take i := by rw [← hG]; simp; exact ⟨m, hm, rfl⟩
     obtain ⟨j, hj⟩ := List.getElem?_of_mem h1
     rw [List.getElem?_take] at hj
     split at hj
     · rename_i hji
       have := List.pairwise_iff_getElem.1 zNk j i (List.getElem?_eq_some_iff.1 hj).1 (List.getElem?_eq_some_iff.1 hk).1 hji
       rw [(List.getElem?_eq_some_iff.1 hj).2, (List.getElem?_eq_some_iff.1 hk).2] at this
       exact this
     · cases hj)
    have hRl : R.length = i := by
     have := congrArg List.length hG
     simp [show zBd.length = 13 from rfl] at this
     omega
    have KO4 := KO.below (zA6 wr (.cells #[.string k.nm, .string k.sup, .slice o1 k.pool.length c1, .slice o2 k.fs.length c2, .slice o3 k.ms.length c3] 31))
    have hE : Ext (seen (zAd W2.heap.size (.slice (some ⟨gv, 0, none⟩) 13 cv)) w3) (seen (offK (w.heap.size + 1) w.heap.size vn) (wr.alloc (.cells #[.string k.nm, .string k.sup, .slice o1 k.pool.length c1, .slice o2 k.fs.length c2, .slice o3 k.ms.length c3] 31))) := zAf (by simp; omega) (fun b hb hx => by
     simp only [zAd, Bool.and_eq_true, decide_eq_true_eq] at hx
     refine ⟨zCt.2 ⟨by omega, by omega, fun e => by have := hvn b e; omega⟩, ?_⟩
     rw [(zA6 wr _).block b (by omega), hbl b hx.1 hb])
    rw [hrow] at hC
    have hP := D.zA0 (zO7 _ _ _ _ _ R KO4 k _ (zAg.ext hE hC) hnew (by omega))
    have B4 := B.alloc (Nat.le_of_lt (Nat.lt_of_lt_of_le (show w.heap.size < W2.heap.size by omega) (by omega))) (.cells #[.string k.nm, .string k.sup, .slice o1 k.pool.length c1, .slice o2 k.fs.length c2, .slice o3 k.ms.length c3] 31)
    clear hcell hC hr hRl
    go_wp2_with fail
    refine hP.out.mono ?_
    rintro e w5 ⟨⟨u, rfl⟩, v5, b5, K5, st5, hv5⟩
    have hs5 := st5.size
    simp only [World.size_alloc] at hs5
    have G5 : zSb (⟨k, b5⟩ :: R) (i + 1) := by
     unfold zSb at hG ⊢
     rw [List.reverse_cons, List.map_append, hG, List.take_add_one, hk]; rfl
    have B5 : Below w.heap.size w w5 := ⟨st5.os.trans B4.os, st5.tape.trans B4.tape, st5.output.trans B4.output, Nat.le_trans B4.size st5.size, fun b hb => by
     rw [st5.block b (by have := B4.size; simp only [World.size_alloc] at this ⊢; omega) (by omega) (by omega) (fun e => by have := hvn b e; omega), B4.block b hb]⟩
    have hbl5 : ∀ b, W2.heap.size ≤ b → b < w3.heap.size → w5.heap[b]? = w3.heap[b]? := fun b h1 h2 => by
     rw [st5.block b (by simp; omega) (by omega) (by omega) (fun e => by have := hvn b e; omega), (zA6 wr _).block b (by omega), hbl b h1 h2]
    have hv6 : ∀ g, v5.ownBlock = some g → w3.heap.size ≤ g := fun g hg => by
     rcases hv5 g hg with h | h
     · exact hvn g h
     · simp only [World.size_alloc] at h; omega
    go_wp2
    go_roundw
    case rel => exact ⟨i + 1, v5, _, by go_num, by omega, K5, G5, B5, ⟨by omega, hbl5⟩, hv6⟩
    case measure => simp [intOf]; omega
  · have hlt' : ¬ (i : Int) < 13 := by omega
    have : i = 13 := by omega
    subst this
    go_wp2
    go_ret
    exact ⟨_, rfl, _, _, _, KO, by rw [← List.map_reverse]; exact hG, B⟩
end Go.Proofs.YtpehimfnkmepnaaGreat.K
namespace Go.Proofs.YtpehimfnkmepnaaGreat.K
open Go.RowKit Q Q.D
theorem zBv {P : Program} {ops : Array Oper} {o : Oper} {a : Act} {w : World} {K : Act → World → Prop} {Q : Exit → Act → World → Prop} {E : Prop} (hgd : o.guard = none) (ty : TypeId) (x y : Operand) (ho : o.op = .store ty x y)
 (g : Nat) (cells : Array Value) (hx : a.eval x = .pointer (some ⟨g, 0, none⟩)) (hy : a.eval y = .agg cells)
 (t : TypeId) (old : Array Value) (hg : w.heap[g]? = some (.cells old t (0, 0))) (hi : (P.info? ty).map (·.size) = some cells.size)
 (hold : old.size = cells.size) (h1 : cells.all (·.oneCell') = true) (h : K (a.put o.dst undef) (w.setRow g cells)) :
 if Region.wanted o (yielded ops a.tmps) = true then Oper.wp P o a w K Q else E := by
 rw [if_pos (by simp [Region.wanted, hgd])]
 exact wp_store_row ty x y ho g cells hx hy t old hg hi hold h1 h
theorem zNw : ∀ {R : List Mem} {s : ByteArray} {m : Mem}, m ∈ lin R s → m ∈ R
 | [], _, _, h => by simp [lin] at h
 | x :: R, s, m, h => by
   unfold lin at h
   split at h
   · rcases List.mem_cons.1 h with rfl | h
     · simp
     · simp [zNw h]
   · simp [zNw h]
def zOw (R : List Mem) (cls nm ds : ByteArray) (w w' : World) (e : Ending) : Prop :=
 match near (qM nm ds) (lin R cls) with
 | none => e = .returned (.tuple #[.string ⟨#[]⟩, .agg #[.string ⟨#[]⟩, .string ⟨#[]⟩, .bool false, .bool false, .int .i64 0, .int .i64 0, .slice none 0 0, .slice none 0 0, .slice none 0 0], .bool false])
 | some m => ∃ y row', m.k.ms.find? (isM nm ds) = some y ∧ e = .returned (.tuple #[.string m.k.nm, .agg (row' : List Value).toArray, .bool true]) ∧ zBk (seen (newB w.heap.size) w') row' y
theorem zRx (w : World) (pk : Nat) (R : List Mem) (mb : Nat) (ao : Option Addr) (c : Nat) (h : KinV w pk R mb ao c) (hsm : ∀ m ∈ R, KSm m.k) (cls nm ds : ByteArray) :
 Calls Tryz.prog 15 #[.pointer (some ⟨pk, 0, none⟩), .string cls, .string nm, .string ds] w fun e w' => Below w.heap.size w w' ∧ zOw R cls nm ds w w' e := by
 have B1 := zA6 w (.cells #[.string ⟨#[]⟩, .string ⟨#[]⟩, .bool false, .bool false, .int .i64 0, .int .i64 0, .slice none 0 0, .slice none 0 0, .slice none 0 0] 39)
 have h1 := h.below B1
 have hl := h1.look cls
 have e1 := h1.e1
 have Y1 := Blk.new w #[.string ⟨#[]⟩, .string ⟨#[]⟩, .bool false, .bool false, .int .i64 0, .int .i64 0, .slice none 0 0, .slice none 0 0, .slice none 0 0] 39
 have hch := h1.mems.chain cls
 have hN := D.zA0 (zJn 60 (enters_of Tryz.func60 (by kernel_rfl) rfl) (qM nm ds) nm ds _ _ _ hch (fun W m ab h => zMe m ab nm ds W h))
 unfold zOw
 unfold zQ8 at hN
 cases hn : near (qM nm ds) (lin R cls) with
 | none =>
   rw [hn] at hN
   generalize zBm R cls = p at *
   simp only [ptr] at hN
   go_enter Tryz.func15, Tryz.ntmps15
   go_wp2_with fail
   generalize w.alloc (.cells #[.string ⟨#[]⟩, .string ⟨#[]⟩, .bool false, .bool false, .int .i64 0, .int .i64 0, .slice none 0 0, .slice none 0 0, .slice none 0 0] 39) = W1 at *
   refine hN.out.mono ?_
   rintro e w2 ⟨rfl, b2⟩
   have Y2 := Y1.below b2
   go_wp2_with (refine wpList_store_row rfl 39 _ _ rfl w.heap.size #[.string ⟨#[]⟩, .string ⟨#[]⟩, .bool false, .bool false, .int .i64 0, .int .i64 0, .slice none 0 0, .slice none 0 0, .slice none 0 0] rfl rfl 39 _ Y2 (by kernel_rfl) rfl (by simp [Value.oneCell']) ?_)
   refine bodyPost_ret (zF3 rfl _ _ w.heap.size 39 _ (0, 0) _ rfl (setRow_heap _ _ _ _ _ _ Y2) Tryz.underlying39 rfl (by kernel_rfl)) rfl ?_
   exact ⟨zBt (next B1 b2) (Nat.le_refl _) _, rfl⟩
 | some m =>
   rw [hn] at hN
   obtain ⟨hmem, hq⟩ := zJl hn
   obtain ⟨jj, y, hj, hy, hf⟩ := zSg hq
   have hmR := zNw hmem
   simp only [ptr] at hN
   rw [show qM nm ds m = (jj : Int) from hj] at hN
   generalize zBm R cls = p at *
   go_enter Tryz.func15, Tryz.ntmps15
   go_wp2_with fail
   generalize w.alloc (.cells #[.string ⟨#[]⟩, .string ⟨#[]⟩, .bool false, .bool false, .int .i64 0, .int .i64 0, .slice none 0 0, .slice none 0 0, .slice none 0 0] 39) = W1 at *
   refine hN.out.mono ?_
   rintro e w2 ⟨rfl, b2⟩
   have Y2 := Y1.below b2
   obtain ⟨ab, a1, q1, a2, q2, a3, q3, hm⟩ := h.mems.at m hmR
   have B2 := next B1 b2
   have hmb := World.block_lt_of_cell? _ _ hm.e0
   have e0 := cell_later B2 hm.e0
   have e4 := cell_later B2 hm.e4
   have hlen : jj < m.k.ms.length := (List.getElem?_eq_some_iff.1 hy).1
   have hlen' : (jj : Int) < (m.k.ms.length : Int) := by omega
   obtain ⟨_, _, rows, h3, h4⟩ := hm.k3
   obtain ⟨b, off, rfl, hlt, hc⟩ := h3 (by omega)
   have hM := h4 jj y hy
   have hcp := D.zA0 (copyM y (rows jj) w2.drew (hM.below B2.drew) ((hsm m hmR).2.2.2 y (List.mem_of_getElem? hy)))
   obtain ⟨d1, t1, d2, t2, d3, t3, hr, _⟩ := hM
   rw [hr] at hcp
   have f0 := cell_later B2 (hc jj hlen 0 (.string y.nm) (by rw [hr]; rfl))
   have f1 := cell_later B2 (hc jj hlen 1 (.string y.ds) (by rw [hr]; rfl))
   have f2 := cell_later B2 (hc jj hlen 2 (.bool y.st) (by rw [hr]; rfl))
   have f3 := cell_later B2 (hc jj hlen 3 (.bool y.nat) (by rw [hr]; rfl))
   have f4 := cell_later B2 (hc jj hlen 4 (.int .i64 y.stk) (by rw [hr]; rfl))
   have f5 := cell_later B2 (hc jj hlen 5 (.int .i64 y.loc) (by rw [hr]; rfl))
   have f6 := cell_later B2 (hc jj hlen 6 (.slice d1 y.code.length t1) (by rw [hr]; rfl))
   have f7 := cell_later B2 (hc jj hlen 7 (.slice d2 y.hs.length t2) (by rw [hr]; rfl))
   have f8 := cell_later B2 (hc jj hlen 8 (.slice d3 y.rs.length t3) (by rw [hr]; rfl))
   simp only [Nat.add_zero] at f0
   have HS1 := D.zA0 (⟨e0, e4, f0, f1, f2, f3, f4, f5, f6, f7, f8⟩ : (fun X => X.cell? ⟨m.b, 0, none⟩ = some (.string m.k.nm) ∧ X.cell? ⟨m.b, 4, none⟩ = some (.slice (some ⟨b, off, none⟩) m.k.ms.length q3) ∧ X.cell? ⟨b, off + jj * 9, none⟩ = some (.string y.nm) ∧ X.cell? ⟨b, off + jj * 9 + 1, none⟩ = some (.string y.ds) ∧ X.cell? ⟨b, off + jj * 9 + 2, none⟩ = some (.bool y.st) ∧ X.cell? ⟨b, off + jj * 9 + 3, none⟩ = some (.bool y.nat) ∧ X.cell? ⟨b, off + jj * 9 + 4, none⟩ = some (.int .i64 y.stk) ∧ X.cell? ⟨b, off + jj * 9 + 5, none⟩ = some (.int .i64 y.loc) ∧ X.cell? ⟨b, off + jj * 9 + 6, none⟩ = some (.slice d1 y.code.length t1) ∧ X.cell? ⟨b, off + jj * 9 + 7, none⟩ = some (.slice d2 y.hs.length t2) ∧ X.cell? ⟨b, off + jj * 9 + 8, none⟩ = some (.slice d3 y.rs.length t3)) w2)
   have SB : ∀ (X Y : World), Below X.heap.size X Y → (fun X => X.cell? ⟨m.b, 0, none⟩ = some (.string m.k.nm) ∧ X.cell? ⟨m.b, 4, none⟩ = some (.slice (some ⟨b, off, none⟩) m.k.ms.length q3) ∧ X.cell? ⟨b, off + jj * 9, none⟩ = some (.string y.nm) ∧ X.cell? ⟨b, off + jj * 9 + 1, none⟩ = some (.string y.ds) ∧ X.cell? ⟨b, off + jj * 9 + 2, none⟩ = some (.bool y.st) ∧ X.cell? ⟨b, off + jj * 9 + 3, none⟩ = some (.bool y.nat) ∧ X.cell? ⟨b, off + jj * 9 + 4, none⟩ = some (.int .i64 y.stk) ∧ X.cell? ⟨b, off + jj * 9 + 5, none⟩ = some (.int .i64 y.loc) ∧ X.cell? ⟨b, off + jj * 9 + 6, none⟩ = some (.slice d1 y.code.length t1) ∧ X.cell? ⟨b, off + jj * 9 + 7, none⟩ = some (.slice d2 y.hs.length t2) ∧ X.cell? ⟨b, off + jj * 9 + 8, none⟩ = some (.slice d3 y.rs.length t3)) X → (fun X => X.cell? ⟨m.b, 0, none⟩ = some (.string m.k.nm) ∧ X.cell? ⟨m.b, 4, none⟩ = some (.slice (some ⟨b, off, none⟩) m.k.ms.length q3) ∧ X.cell? ⟨b, off + jj * 9, none⟩ = some (.string y.nm) ∧ X.cell? ⟨b, off + jj * 9 + 1, none⟩ = some (.string y.ds) ∧ X.cell? ⟨b, off + jj * 9 + 2, none⟩ = some (.bool y.st) ∧ X.cell? ⟨b, off + jj * 9 + 3, none⟩ = some (.bool y.nat) ∧ X.cell? ⟨b, off + jj * 9 + 4, none⟩ = some (.int .i64 y.stk) ∧ X.cell? ⟨b, off + jj * 9 + 5, none⟩ = some (.int .i64 y.loc) ∧ X.cell? ⟨b, off + jj * 9 + 6, none⟩ = some (.slice d1 y.code.length t1) ∧ X.cell? ⟨b, off + jj * 9 + 7, none⟩ = some (.slice d2 y.hs.length t2) ∧ X.cell? ⟨b, off + jj * 9 + 8, none⟩ = some (.slice d3 y.rs.length t3)) Y := fun _ _ hb hx => ⟨cell_later hb hx.1, cell_later hb hx.2.1, cell_later hb hx.2.2.1, cell_later hb hx.2.2.2.1, cell_later hb hx.2.2.2.2.1, cell_later hb hx.2.2.2.2.2.1, cell_later hb hx.2.2.2.2.2.2.1, cell_later hb hx.2.2.2.2.2.2.2.1, cell_later hb hx.2.2.2.2.2.2.2.2.1, cell_later hb hx.2.2.2.2.2.2.2.2.2.1, cell_later hb hx.2.2.2.2.2.2.2.2.2.2⟩
   have SR : ∀ (X : World) (cs : Array Value), (fun X => X.cell? ⟨m.b, 0, none⟩ = some (.string m.k.nm) ∧ X.cell? ⟨m.b, 4, none⟩ = some (.slice (some ⟨b, off, none⟩) m.k.ms.length q3) ∧ X.cell? ⟨b, off + jj * 9, none⟩ = some (.string y.nm) ∧ X.cell? ⟨b, off + jj * 9 + 1, none⟩ = some (.string y.ds) ∧ X.cell? ⟨b, off + jj * 9 + 2, none⟩ = some (.bool y.st) ∧ X.cell? ⟨b, off + jj * 9 + 3, none⟩ = some (.bool y.nat) ∧ X.cell? ⟨b, off + jj * 9 + 4, none⟩ = some (.int .i64 y.stk) ∧ X.cell? ⟨b, off + jj * 9 + 5, none⟩ = some (.int .i64 y.loc) ∧ X.cell? ⟨b, off + jj * 9 + 6, none⟩ = some (.slice d1 y.code.length t1) ∧ X.cell? ⟨b, off + jj * 9 + 7, none⟩ = some (.slice d2 y.hs.length t2) ∧ X.cell? ⟨b, off + jj * 9 + 8, none⟩ = some (.slice d3 y.rs.length t3)) X → (fun X => X.cell? ⟨m.b, 0, none⟩ = some (.string m.k.nm) ∧ X.cell? ⟨m.b, 4, none⟩ = some (.slice (some ⟨b, off, none⟩) m.k.ms.length q3) ∧ X.cell? ⟨b, off + jj * 9, none⟩ = some (.string y.nm) ∧ X.cell? ⟨b, off + jj * 9 + 1, none⟩ = some (.string y.ds) ∧ X.cell? ⟨b, off + jj * 9 + 2, none⟩ = some (.bool y.st) ∧ X.cell? ⟨b, off + jj * 9 + 3, none⟩ = some (.bool y.nat) ∧ X.cell? ⟨b, off + jj * 9 + 4, none⟩ = some (.int .i64 y.stk) ∧ X.cell? ⟨b, off + jj * 9 + 5, none⟩ = some (.int .i64 y.loc) ∧ X.cell? ⟨b, off + jj * 9 + 6, none⟩ = some (.slice d1 y.code.length t1) ∧ X.cell? ⟨b, off + jj * 9 + 7, none⟩ = some (.slice d2 y.hs.length t2) ∧ X.cell? ⟨b, off + jj * 9 + 8, none⟩ = some (.slice d3 y.rs.length t3)) (X.setRow w.heap.size cs) := fun _ cs hx => by
    refine ⟨?_, ?_, ?_, ?_, ?_, ?_, ?_, ?_, ?_, ?_, ?_⟩ <;> rw [cell_setRow_other _ _ _ _ (by first | exact Nat.ne_of_lt hmb | exact Nat.ne_of_lt hlt)]
    · exact hx.1
    · exact hx.2.1
    · exact hx.2.2.1
    · exact hx.2.2.2.1
    · exact hx.2.2.2.2.1
    · exact hx.2.2.2.2.2.1
    · exact hx.2.2.2.2.2.2.1
    · exact hx.2.2.2.2.2.2.2.1
    · exact hx.2.2.2.2.2.2.2.2.1
    · exact hx.2.2.2.2.2.2.2.2.2.1
    · exact hx.2.2.2.2.2.2.2.2.2.2
   have HSB := D.zA0 SB
   have HSR := D.zA0 SR
   clear SB SR e0 e4 f0 f1 f2 f3 f4 f5 f6 f7 f8 hc h3 h4 hm hr
   go_wp2_with fail
   refine wp_region_noPanic ?_
   refine wp_region_held_drew (S := (fun X => X.cell? ⟨m.b, 0, none⟩ = some (.string m.k.nm) ∧ X.cell? ⟨m.b, 4, none⟩ = some (.slice (some ⟨b, off, none⟩) m.k.ms.length q3) ∧ X.cell? ⟨b, off + jj * 9, none⟩ = some (.string y.nm) ∧ X.cell? ⟨b, off + jj * 9 + 1, none⟩ = some (.string y.ds) ∧ X.cell? ⟨b, off + jj * 9 + 2, none⟩ = some (.bool y.st) ∧ X.cell? ⟨b, off + jj * 9 + 3, none⟩ = some (.bool y.nat) ∧ X.cell? ⟨b, off + jj * 9 + 4, none⟩ = some (.int .i64 y.stk) ∧ X.cell? ⟨b, off + jj * 9 + 5, none⟩ = some (.int .i64 y.loc) ∧ X.cell? ⟨b, off + jj * 9 + 6, none⟩ = some (.slice d1 y.code.length t1) ∧ X.cell? ⟨b, off + jj * 9 + 7, none⟩ = some (.slice d2 y.hs.length t2) ∧ X.cell? ⟨b, off + jj * 9 + 8, none⟩ = some (.slice d3 y.rs.length t3))) (by kernel_rfl) ?_ (fun hHeld => ?_)
   · (try dsimp only); first | exact HS1.out | exact HSB.out _ _ b3 HS1.out | exact HSR.out _ _ (HSB.out _ _ b3 HS1.out)
   refine tH 0 ?q0 rfl rfl ?q4 ?q5
   case q4 => intro w hSw; (try dsimp only at hSw); go_simp; try with_reducible rfl
   try simp only [Act.put, sq1, sq2, sq3]
   refine tH 1 ?q6 rfl rfl ?q7 ?q8
   case q7 => intro w hSw; (try dsimp only at hSw); go_simp; try with_reducible rfl
   try simp only [Act.put, sq1, sq2, sq3]
   refine tH 2 ?q9 rfl rfl ?qa ?qb
   case qa => intro w hSw; (try dsimp only at hSw); go_simp; try with_reducible rfl
   try simp only [Act.put, sq1, sq2, sq3]
   refine tH 3 ?qc rfl rfl ?qd ?qe
   case qd => intro w hSw; (try dsimp only at hSw); go_simp; try with_reducible rfl
   try simp only [Act.put, sq1, sq2, sq3]
   refine tH 4 ?qf rfl rfl ?qg ?qh
   case qg => intro w hSw; (try dsimp only at hSw); go_simp; try with_reducible rfl
   try simp only [Act.put, sq1, sq2, sq3]
   refine tH 5 ?qi rfl rfl ?qj ?qk
   case qj => intro w hSw; (try dsimp only at hSw); go_simp; try with_reducible rfl
   try simp only [Act.put, sq1, sq2, sq3]
   refine tH 6 ?ql rfl rfl ?qm ?qn
   case qm => intro w hSw; (try dsimp only at hSw); go_simp; try with_reducible rfl
   try simp only [Act.put, sq1, sq2, sq3]
   refine tH 7 ?qo rfl rfl ?qp ?qq
   case qp => intro w hSw; (try dsimp only at hSw); go_simp; try with_reducible rfl
   try simp only [Act.put, sq1, sq2, sq3]
   refine tH 8 ?qr rfl rfl ?qs ?qt
   case qs => intro w hSw; (try dsimp only at hSw); go_simp; try with_reducible rfl
   try simp only [Act.put, sq1, sq2, sq3]
   refine tH 9 ?qu rfl rfl ?qv ?qw
   case qv => intro w hSw; (try dsimp only at hSw); go_simp; try with_reducible rfl
   try simp only [Act.put, sq1, sq2, sq3]
   refine tH 10 ?qx rfl rfl ?qy ?qz
   case qy => intro w hSw; (try dsimp only at hSw); go_simp; try with_reducible rfl
   try simp only [Act.put, sq1, sq2, sq3]
   refine tH 11 ?qA rfl rfl ?qB ?qC
   case qB => intro w hSw; (try dsimp only at hSw); go_simp; try with_reducible rfl
   try simp only [Act.put, sq1, sq2, sq3]
   refine tH 12 ?qD rfl rfl ?qE ?qF
   case qE => intro w hSw; (try dsimp only at hSw); go_simp; try with_reducible rfl
   try simp only [Act.put, sq1, sq2, sq3]
   refine oH 13 rfl (fun K hK => ?_)
   go_simp
   refine hcp.out.mono ?_
   rintro e w3 ⟨b3, row3, rfl, hM3'⟩
   have hM3 := hM3'
   obtain ⟨h1, j1, h2, j2, h3, j3, rfl, _⟩ := hM3'
   have Y3 : Blk w3 w.heap.size #[.string ⟨#[]⟩, .string ⟨#[]⟩, .bool false, .bool false, .int .i64 0, .int .i64 0, .slice none 0 0, .slice none 0 0, .slice none 0 0] 39 := Blk.below (show Blk w2.drew w.heap.size _ _ from Y2) b3
   try go_wp2_with fail
   refine hK.out _ _ ?qG ?qH
   case qG => (try dsimp only); first | exact HS1.out | exact HSB.out _ _ b3 HS1.out | exact HSR.out _ _ (HSB.out _ _ b3 HS1.out)
   clear hK K hHeld
   intro hHeld
   try simp only [Act.put, sq1, sq2, sq3]
   refine tH 14 ?qI rfl rfl ?qJ ?qK
   case qJ => intro w hSw; (try dsimp only at hSw); go_simp; try with_reducible rfl
   try simp only [Act.put, sq1, sq2, sq3]
   refine oH 15 rfl (fun K hK => ?_)
   refine zBv rfl 39 _ _ rfl w.heap.size #[.string y.nm, .string y.ds, .bool y.st, .bool y.nat, .int .i64 y.stk, .int .i64 y.loc, .slice h1 y.code.length j1, .slice h2 y.hs.length j2, .slice h3 y.rs.length j3] rfl rfl 39 _ Y3 (by kernel_rfl) rfl (by simp [Value.oneCell']) ?_
   refine hK.out _ _ ?qL ?qN
   case qL => (try dsimp only); first | exact HS1.out | exact HSB.out _ _ b3 HS1.out | exact HSR.out _ _ (HSB.out _ _ b3 HS1.out)
   clear hK K hHeld
   intro hHeld
   try simp only [Act.put]
   refine tH 16 ?qO rfl rfl ?qP ?qQ
   case qP => intro w hSw; (try dsimp only at hSw); go_simp; try with_reducible rfl
   try simp only [Act.put, sq1, sq2, sq3]
   refine eH ?_
   refine NoPanic.normal ?_
   go_wp2_with fail
   refine bodyPost_ret (zF3 rfl _ _ w.heap.size 39 _ (0, 0) _ rfl (setRow_heap _ _ _ _ _ _ Y3) Tryz.underlying39 rfl (by kernel_rfl)) rfl ?_
   have Eb : Ext (seen (newB w2.drew.heap.size) w3) (seen (newB w.heap.size) (w3.setRow w.heap.size #[.string y.nm, .string y.ds, .bool y.st, .bool y.nat, .int .i64 y.stk, .int .i64 y.loc, .slice h1 y.code.length j1, .slice h2 y.hs.length j2, .slice h3 y.rs.length j3])) :=
    zAf (by simp [World.setRow]) (fun b _ hb => by
     simp only [newB, decide_eq_true_eq] at hb
     have h1 := B2.size
     have h2 := Y2.lt
     have h3 : w2.drew.heap.size = w2.heap.size := rfl
     exact ⟨by simp [newB]; omega, setRow_other _ _ _ _ (by omega)⟩)
   exact ⟨zBt (next B2 (next (Below.refl _ w2).drew b3)) (Nat.le_refl _) _, y, _, hf, rfl, zBk.ext Eb hM3⟩
def zB7 : List KD → ByteArray → Option KD
 | [], _ => none
 | m :: o, s => if s == m.nm then some m else zB7 o s
def klin : List KD → ByteArray → List KD
 | [], _ => []
 | m :: o, s => if s == m.nm then m :: klin o m.sup else klin o s
theorem zMs : ∀ (R : List Mem) (s : ByteArray), (zBm R s).map Mem.k = zB7 (R.map Mem.k) s
 | [], _ => rfl
 | m :: o, s => by
   simp only [zBm, zB7, List.map_cons]
   split
   · rfl
   · exact zMs o s
theorem zM7 : ∀ (R : List Mem) (s : ByteArray), (lin R s).map Mem.k = klin (R.map Mem.k) s
 | [], _ => rfl
 | m :: o, s => by
   simp only [lin, klin, List.map_cons]
   split
   · simp only [List.map_cons, zM7 o]
   · exact zM7 o s
def zN5 (q : KD → Int) : List KD → Option KD
 | [] => none
 | m :: l => if 0 ≤ q m then some m else zN5 q l
theorem zSj (q : KD → Int) : ∀ (l : List Mem), (near (fun m => q m.k) l).map Mem.k = zN5 q (l.map Mem.k)
 | [] => rfl
 | m :: l => by
   simp only [near, zN5, List.map_cons]
   split
   · rfl
   · exact zSj q l
def zGl (nm ds : ByteArray) (l : List KD) : Option MD := match zN5 (fun k => ixZ k.ms (isM nm ds)) l with | some m => m.ms.find? (isM nm ds) | none => none
theorem zUc (nm ds : ByteArray) (l : List Mem) : zP1 nm ds l = zGl nm ds (l.map Mem.k) := by
 unfold zP1 zGl
 have := zSj (fun k => ixZ k.ms (isM nm ds)) l
 rw [← this]
 show (match near (qM nm ds) l with | some m => _ | none => _) = _
 have e : (fun m : Mem => ixZ m.k.ms (isM nm ds)) = qM nm ds := rfl
 rw [e]
 cases near (qM nm ds) l <;> rfl
def zCv (l : List KD) (x : MD) : Bool := match zGl x.nm x.ds l with | some y => y.st != x.st | none => false
theorem zSv (l : List Mem) (x : MD) : zE9 l x = zCv (l.map Mem.k) x := by
 unfold zE9 zCv
 rw [zUc]
 cases zGl x.nm x.ds (l.map Mem.k) <;> rfl
def zG3 (R : List KD) (k : KD) : Int :=
 if zDh k = 0 then
  (if (zB7 R k.nm).isSome then 23 else if 32 ≤ R.length then 4 else if (zB7 R k.sup).isNone then 22 else if k.ms.any MD.nat then 12 else if k.ms.any (zCv (klin R k.sup)) then 23 else 0)
 else zDh k
theorem zRg (R : List Mem) (k : KD) : refZ R k = zG3 (R.map Mem.k) k := by
 unfold refZ zG3
 have e1 : (zBm R k.nm).isSome = (zB7 (R.map Mem.k) k.nm).isSome := by rw [← zMs]; cases zBm R k.nm <;> rfl
 have e2 : (zBm R k.sup).isNone = (zB7 (R.map Mem.k) k.sup).isNone := by rw [← zMs]; cases zBm R k.sup <;> rfl
 have e3 : zE9 (lin R k.sup) = zCv (klin (R.map Mem.k) k.sup) := by
  funext x
  rw [zSv, zM7]
 rw [e1, e2, e3, List.length_map]
theorem meth_k {R : List Mem} {cls nm ds : ByteArray} {w w' : World} {e : Ending} (h : zOw R cls nm ds w w' e) : match zN5 (fun k => ixZ k.ms (isM nm ds)) (klin (R.map Mem.k) cls) with
 | none => e = .returned (.tuple #[.string ⟨#[]⟩, .agg #[.string ⟨#[]⟩, .string ⟨#[]⟩, .bool false, .bool false, .int .i64 0, .int .i64 0, .slice none 0 0, .slice none 0 0, .slice none 0 0], .bool false])
 | some k => ∃ y row', k.ms.find? (isM nm ds) = some y ∧ e = .returned (.tuple #[.string k.nm, .agg (row' : List Value).toArray, .bool true]) ∧ zBk (seen (newB w.heap.size) w') row' y := by
 unfold zOw at h
 have := zSj (fun k => ixZ k.ms (isM nm ds)) (lin R cls)
 rw [← zM7, ← this]
 have e : (fun m : Mem => ixZ m.k.ms (isM nm ds)) = qM nm ds := rfl
 rw [e]
 cases hn : near (qM nm ds) (lin R cls) with
 | none => rw [hn] at h; exact h
 | some m => rw [hn] at h; exact h
theorem zNu : ∀ k ∈ zBd, KSm k := by
 intro k hk
 refine ⟨?_, ?_, ?_, ?_⟩
 · revert k; decide
 · revert k; decide
 · revert k; decide
 · intro m hm
   refine ⟨?_, ?_, ?_, ?_⟩
   · revert hm; revert m; revert k; decide
   · revert hm; revert m; revert k; decide
   · revert hm; revert m; revert k; decide
   · have : m.rs = [] := by revert hm; revert m; revert k; decide
     rw [this]; simp
def zG4 : ByteArray := ⟨#[65]⟩
theorem zTj : zG3 zBd.reverse (zAm zG4 ⟨#[66]⟩) = 22 := by decide +kernel
theorem zT8 : zG3 zBd.reverse (zAm zG4 ⟨#[84, 104, 114, 101, 97, 100]⟩) = 0 := by decide +kernel
theorem zTo : klin (zAm zG4 ⟨#[84, 104, 114, 101, 97, 100]⟩ :: zBd.reverse) ⟨#[73, 110, 100, 101, 120]⟩ = [zAm ⟨#[73, 110, 100, 101, 120]⟩ zA5, zAm zA5 zAc, zB8] := by rfl
theorem zUn : zN5 (fun k => ixZ k.ms (isM ⟨#[115, 116, 97, 114, 116]⟩ ⟨#[40, 41, 86]⟩)) (klin (zAm zG4 ⟨#[84, 104, 114, 101, 97, 100]⟩ :: zBd.reverse) zG4) = some zE0 := by kernel_rfl
theorem zUb : zE0.ms.find? (isM ⟨#[115, 116, 97, 114, 116]⟩ ⟨#[40, 41, 86]⟩) = some (natM ⟨#[115, 116, 97, 114, 116]⟩ ⟨#[40, 41, 86]⟩ false) := by kernel_rfl
theorem zO9 (a1 : Option Addr) (c1 : Nat) (a2 : Option Addr) (c2 : Nat) (l : List ByteArray) (w : World) (h1 : LAt 1 zD7 w a1 c1 l) (h2 : LAt 1 zD7 w a2 c2 l) :
 Calls Tryz.prog 34 #[.slice a1 l.length c1, .slice a2 l.length c2] w fun e w' => e = .returned (.bool true) ∧ Below w.heap.size w w' := by
 have hbig := h1.big
 go_enter Tryz.func34, Tryz.ntmps34
 go_wp2
 go_loopw [5] (fun iv wr => ∃ i : Nat, iv = .int .i64 (i : Int) ∧ i ≤ l.length ∧ Below w.heap.size w wr) (fun iv _ => l.length - (intOf iv).toNat)
 case atStart => exact ⟨0, rfl, Nat.zero_le _, Below.refl _ _⟩
 case round =>
  obtain ⟨i, rfl, hi, hB⟩ := hrel
  by_cases hlt : i < l.length
  · have hlt' : (i : Int) < (l.length : Int) := by omega
    obtain ⟨_, _, r1, g1, k1⟩ := h1.below hB (fun _ _ h => h)
    obtain ⟨_, _, r2, g2, k2⟩ := h2.below hB (fun _ _ h => h)
    obtain ⟨b1, o1, rfl, _, d1⟩ := g1 (by omega)
    obtain ⟨b2, o2, rfl, _, d2⟩ := g2 (by omega)
    obtain ⟨x, hx⟩ : ∃ x, l[i]? = some x := ⟨_, List.getElem?_eq_getElem hlt⟩
    have e1 := d1 i hlt 0 (.string x) (by rw [(k1 i x hx).1]; rfl)
    have e2 := d2 i hlt 0 (.string x) (by rw [(k2 i x hx).1]; rfl)
    simp only [Nat.mul_one, Nat.add_zero] at e1 e2
    clear d1 d2 g1 g2 k1 k2
    go_wp2_with fail
    go_region
    all_goals go_wp2
    all_goals go_roundw
    all_goals first
     | exact ⟨i + 1, by go_num, by omega, hB.drew⟩
     | (simp [intOf]; omega)
  · have hlt' : ¬ (i : Int) < (l.length : Int) := by omega
    go_wp2
    go_ret
    exact ⟨rfl, hB⟩
end Go.Proofs.YtpehimfnkmepnaaGreat.K
