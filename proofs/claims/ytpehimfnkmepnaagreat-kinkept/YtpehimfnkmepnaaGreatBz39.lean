import Derived.Test.YtpehimfnkmepnaaGreatBz38
set_option maxRecDepth 8000
set_option maxHeartbeats 40000000
namespace Go.Proofs.YtpehimfnkmepnaaGreat.K
open Go.RowKit Q Q.D
theorem zC5 {P : Program} {ops : Array Oper} {o : Oper} {a : Act} {w : World} {K : Act → World → Prop} {Q : Exit → Act → World → Prop} {E : Prop} (hgd : o.guard = none) (ty : TypeId) (x y : Operand) (ho : o.op = .store ty x y)
 (g : Nat) (cells : Array Value) (hx : a.eval x = .pointer (some ⟨g, 0, none⟩)) (hy : a.eval y = .agg cells)
 (t : TypeId) (old : Array Value) (hg : w.heap[g]? = some (.cells old t (0, 0))) (hi : (P.info? ty).map (·.size) = some cells.size)
 (hold : old.size = cells.size) (h1 : cells.all (·.oneCell') = true) (h : K (a.put o.dst undef) (w.setRow g cells)) :
 if Region.wanted o (yielded ops a.tmps) = true then Oper.wp P o a w K Q else E := by
 rw [if_pos (by simp [Region.wanted, hgd])]
 exact wp_store_row ty x y ho g cells hx hy t old hg hi hold h1 h
theorem zKz : ∀ {R : List Mem} {s : ByteArray} {m : Mem}, m ∈ lin R s → m ∈ R
 | [], _, _, h => by simp [lin] at h
 | x :: R, s, m, h => by
   unfold lin at h
   split at h
   · rcases List.mem_cons.1 h with rfl | h
     · simp
     · simp [zKz h]
   · simp [zKz h]
def FieldIs (R : List Mem) (cls nm ds : ByteArray) (e : Ending) : Prop :=
 match near (qF nm ds) (lin R cls) with
 | none => e = .returned (.tuple #[.string ⟨#[]⟩, .agg #[.string ⟨#[]⟩, .string ⟨#[]⟩, .bool false], .bool false])
 | some m => ∃ f, m.k.fs.find? (isF nm ds) = some f ∧ e = .returned (.tuple #[.string m.k.nm, .agg #[.string f.nm, .string f.ds, .bool f.st], .bool true])
def zJl (R : List Mem) (cls nm ds : ByteArray) (w w' : World) (e : Ending) : Prop :=
 match near (qM nm ds) (lin R cls) with
 | none => e = .returned (.tuple #[.string ⟨#[]⟩, .agg #[.string ⟨#[]⟩, .string ⟨#[]⟩, .bool false, .bool false, .int .i64 0, .int .i64 0, .slice none 0 0, .slice none 0 0, .slice none 0 0], .bool false])
 | some m => ∃ y row', m.k.ms.find? (isM nm ds) = some y ∧ e = .returned (.tuple #[.string m.k.nm, .agg (row' : List Value).toArray, .bool true]) ∧ zB1 (seen (newB w.heap.size) w') row' y
theorem zJi (w : World) (pk : Nat) (R : List Mem) (mb : Nat) (ao : Option Addr) (c : Nat) (h : KinV w pk R mb ao c) (hsm : ∀ m ∈ R, KSm m.k) (cls nm ds : ByteArray) :
 Calls Tryz.prog 15 #[.pointer (some ⟨pk, 0, none⟩), .string cls, .string nm, .string ds] w fun e w' => Below w.heap.size w w' ∧ zJl R cls nm ds w w' e := by
 have B1 := zA9 w (.cells #[.string ⟨#[]⟩, .string ⟨#[]⟩, .bool false, .bool false, .int .i64 0, .int .i64 0, .slice none 0 0, .slice none 0 0, .slice none 0 0] 39)
 have h1 := h.below B1
 have hl := h1.look cls
 have e1 := h1.e1
 have Y1 := Blk.new w #[.string ⟨#[]⟩, .string ⟨#[]⟩, .bool false, .bool false, .int .i64 0, .int .i64 0, .slice none 0 0, .slice none 0 0, .slice none 0 0] 39
 have hch := h1.mems.chain cls
 have hN := D.zA0 (zH0 60 (enters_of Tryz.func60 (by kernel_rfl) rfl) (qM nm ds) nm ds _ _ _ hch (fun W m ab h => zJr m ab nm ds W h))
 unfold zJl
 unfold zOx at hN
 cases hn : near (qM nm ds) (lin R cls) with
 | none =>
   rw [hn] at hN
   generalize zB7 R cls = p at *
   simp only [ptr] at hN
   go_enter Tryz.func15, Tryz.ntmps15
   go_wp2_with fail
   generalize w.alloc (.cells #[.string ⟨#[]⟩, .string ⟨#[]⟩, .bool false, .bool false, .int .i64 0, .int .i64 0, .slice none 0 0, .slice none 0 0, .slice none 0 0] 39) = W1 at *
   refine hN.out.mono ?_
   rintro e w2 ⟨rfl, b2⟩
   have Y2 := Y1.below b2
   go_wp2_with (refine wpList_store_row rfl 39 _ _ rfl w.heap.size #[.string ⟨#[]⟩, .string ⟨#[]⟩, .bool false, .bool false, .int .i64 0, .int .i64 0, .slice none 0 0, .slice none 0 0, .slice none 0 0] rfl rfl 39 _ Y2 (by kernel_rfl) rfl (by simp [Value.oneCell']) ?_)
   refine bodyPost_ret (zH5 rfl _ _ w.heap.size 39 _ (0, 0) _ rfl (setRow_heap _ _ _ _ _ _ Y2) Tryz.underlying39 rfl (by kernel_rfl)) rfl ?_
   exact ⟨zBn (next B1 b2) (Nat.le_refl _) _, rfl⟩
 | some m =>
   rw [hn] at hN
   obtain ⟨hmem, hq⟩ := zGz hn
   obtain ⟨jj, y, hj, hy, hf⟩ := zRa hq
   have hmR := zKz hmem
   simp only [ptr] at hN
   rw [show qM nm ds m = (jj : Int) from hj] at hN
   generalize zB7 R cls = p at *
   go_enter Tryz.func15, Tryz.ntmps15
   go_wp2_with fail
   generalize w.alloc (.cells #[.string ⟨#[]⟩, .string ⟨#[]⟩, .bool false, .bool false, .int .i64 0, .int .i64 0, .slice none 0 0, .slice none 0 0, .slice none 0 0] 39) = W1 at *
   refine hN.out.mono ?_
   rintro e w2 ⟨rfl, b2⟩
   have Y2 := Y1.below b2
   obtain ⟨ab, a1, q1, a2, q2, a3, q3, hm⟩ := h.mems.at m hmR
   have B2 := next B1 b2
   have hmb := World.block_lt_of_cell? _ _ hm.e0
   have e0 := cell_later B2 hm.e0
   have e4 := cell_later B2 hm.e4
   have hlen : jj < m.k.ms.length := (List.getElem?_eq_some_iff.1 hy).1
   have hlen' : (jj : Int) < (m.k.ms.length : Int) := by omega
   obtain ⟨_, _, rows, h3, h4⟩ := hm.k3
   obtain ⟨b, off, rfl, hlt, hc⟩ := h3 (by omega)
   have hM := h4 jj y hy
   have hcp := D.zA0 (copyM y (rows jj) w2.drew (hM.below B2.drew) ((hsm m hmR).2.2.2 y (List.mem_of_getElem? hy)))
   obtain ⟨d1, t1, d2, t2, d3, t3, hr, _⟩ := hM
   rw [hr] at hcp
   have f0 := cell_later B2 (hc jj hlen 0 (.string y.nm) (by rw [hr]; rfl))
   have f1 := cell_later B2 (hc jj hlen 1 (.string y.ds) (by rw [hr]; rfl))
   have f2 := cell_later B2 (hc jj hlen 2 (.bool y.st) (by rw [hr]; rfl))
   have f3 := cell_later B2 (hc jj hlen 3 (.bool y.nat) (by rw [hr]; rfl))
   have f4 := cell_later B2 (hc jj hlen 4 (.int .i64 y.stk) (by rw [hr]; rfl))
   have f5 := cell_later B2 (hc jj hlen 5 (.int .i64 y.loc) (by rw [hr]; rfl))
   have f6 := cell_later B2 (hc jj hlen 6 (.slice d1 y.code.length t1) (by rw [hr]; rfl))
   have f7 := cell_later B2 (hc jj hlen 7 (.slice d2 y.hs.length t2) (by rw [hr]; rfl))
   have f8 := cell_later B2 (hc jj hlen 8 (.slice d3 y.rs.length t3) (by rw [hr]; rfl))
   simp only [Nat.add_zero] at f0
   have HS1 := D.zA0 (⟨e0, e4, f0, f1, f2, f3, f4, f5, f6, f7, f8⟩ : (fun X => X.cell? ⟨m.b, 0, none⟩ = some (.string m.k.nm) ∧ X.cell? ⟨m.b, 4, none⟩ = some (.slice (some ⟨b, off, none⟩) m.k.ms.length q3) ∧ X.cell? ⟨b, off + jj * 9, none⟩ = some (.string y.nm) ∧ X.cell? ⟨b, off + jj * 9 + 1, none⟩ = some (.string y.ds) ∧ X.cell? ⟨b, off + jj * 9 + 2, none⟩ = some (.bool y.st) ∧ X.cell? ⟨b, off + jj * 9 + 3, none⟩ = some (.bool y.nat) ∧ X.cell? ⟨b, off + jj * 9 + 4, none⟩ = some (.int .i64 y.stk) ∧ X.cell? ⟨b, off + jj * 9 + 5, none⟩ = some (.int .i64 y.loc) ∧ X.cell? ⟨b, off + jj * 9 + 6, none⟩ = some (.slice d1 y.code.length t1) ∧ X.cell? ⟨b, off + jj * 9 + 7, none⟩ = some (.slice d2 y.hs.length t2) ∧ X.cell? ⟨b, off + jj * 9 + 8, none⟩ = some (.slice d3 y.rs.length t3)) w2)
   have SB : ∀ (X Y : World), Below X.heap.size X Y → (fun X => X.cell? ⟨m.b, 0, none⟩ = some (.string m.k.nm) ∧ X.cell? ⟨m.b, 4, none⟩ = some (.slice (some ⟨b, off, none⟩) m.k.ms.length q3) ∧ X.cell? ⟨b, off + jj * 9, none⟩ = some (.string y.nm) ∧ X.cell? ⟨b, off + jj * 9 + 1, none⟩ = some (.string y.ds) ∧ X.cell? ⟨b, off + jj * 9 + 2, none⟩ = some (.bool y.st) ∧ X.cell? ⟨b, off + jj * 9 + 3, none⟩ = some (.bool y.nat) ∧ X.cell? ⟨b, off + jj * 9 + 4, none⟩ = some (.int .i64 y.stk) ∧ X.cell? ⟨b, off + jj * 9 + 5, none⟩ = some (.int .i64 y.loc) ∧ X.cell? ⟨b, off + jj * 9 + 6, none⟩ = some (.slice d1 y.code.length t1) ∧ X.cell? ⟨b, off + jj * 9 + 7, none⟩ = some (.slice d2 y.hs.length t2) ∧ X.cell? ⟨b, off + jj * 9 + 8, none⟩ = some (.slice d3 y.rs.length t3)) X → (fun X => X.cell? ⟨m.b, 0, none⟩ = some (.string m.k.nm) ∧ X.cell? ⟨m.b, 4, none⟩ = some (.slice (some ⟨b, off, none⟩) m.k.ms.length q3) ∧ X.cell? ⟨b, off + jj * 9, none⟩ = some (.string y.nm) ∧ X.cell? ⟨b, off + jj * 9 + 1, none⟩ = some (.string y.ds) ∧ X.cell? ⟨b, off + jj * 9 + 2, none⟩ = some (.bool y.st) ∧ X.cell? ⟨b, off + jj * 9 + 3, none⟩ = some (.bool y.nat) ∧ X.cell? ⟨b, off + jj * 9 + 4, none⟩ = some (.int .i64 y.stk) ∧ X.cell? ⟨b, off + jj * 9 + 5, none⟩ = some (.int .i64 y.loc) ∧ X.cell? ⟨b, off + jj * 9 + 6, none⟩ = some (.slice d1 y.code.length t1) ∧ X.cell? ⟨b, off + jj * 9 + 7, none⟩ = some (.slice d2 y.hs.length t2) ∧ X.cell? ⟨b, off + jj * 9 + 8, none⟩ = some (.slice d3 y.rs.length t3)) Y := fun _ _ hb hx => ⟨cell_later hb hx.1, cell_later hb hx.2.1, cell_later hb hx.2.2.1, cell_later hb hx.2.2.2.1, cell_later hb hx.2.2.2.2.1, cell_later hb hx.2.2.2.2.2.1, cell_later hb hx.2.2.2.2.2.2.1, cell_later hb hx.2.2.2.2.2.2.2.1, cell_later hb hx.2.2.2.2.2.2.2.2.1, cell_later hb hx.2.2.2.2.2.2.2.2.2.1, cell_later hb hx.2.2.2.2.2.2.2.2.2.2⟩
   have SR : ∀ (X : World) (cs : Array Value), (fun X => X.cell? ⟨m.b, 0, none⟩ = some (.string m.k.nm) ∧ X.cell? ⟨m.b, 4, none⟩ = some (.slice (some ⟨b, off, none⟩) m.k.ms.length q3) ∧ X.cell? ⟨b, off + jj * 9, none⟩ = some (.string y.nm) ∧ X.cell? ⟨b, off + jj * 9 + 1, none⟩ = some (.string y.ds) ∧ X.cell? ⟨b, off + jj * 9 + 2, none⟩ = some (.bool y.st) ∧ X.cell? ⟨b, off + jj * 9 + 3, none⟩ = some (.bool y.nat) ∧ X.cell? ⟨b, off + jj * 9 + 4, none⟩ = some (.int .i64 y.stk) ∧ X.cell? ⟨b, off + jj * 9 + 5, none⟩ = some (.int .i64 y.loc) ∧ X.cell? ⟨b, off + jj * 9 + 6, none⟩ = some (.slice d1 y.code.length t1) ∧ X.cell? ⟨b, off + jj * 9 + 7, none⟩ = some (.slice d2 y.hs.length t2) ∧ X.cell? ⟨b, off + jj * 9 + 8, none⟩ = some (.slice d3 y.rs.length t3)) X → (fun X => X.cell? ⟨m.b, 0, none⟩ = some (.string m.k.nm) ∧ X.cell? ⟨m.b, 4, none⟩ = some (.slice (some ⟨b, off, none⟩) m.k.ms.length q3) ∧ X.cell? ⟨b, off + jj * 9, none⟩ = some (.string y.nm) ∧ X.cell? ⟨b, off + jj * 9 + 1, none⟩ = some (.string y.ds) ∧ X.cell? ⟨b, off + jj * 9 + 2, none⟩ = some (.bool y.st) ∧ X.cell? ⟨b, off + jj * 9 + 3, none⟩ = some (.bool y.nat) ∧ X.cell? ⟨b, off + jj * 9 + 4, none⟩ = some (.int .i64 y.stk) ∧ X.cell? ⟨b, off + jj * 9 + 5, none⟩ = some (.int .i64 y.loc) ∧ X.cell? ⟨b, off + jj * 9 + 6, none⟩ = some (.slice d1 y.code.length t1) ∧ X.cell? ⟨b, off + jj * 9 + 7, none⟩ = some (.slice d2 y.hs.length t2) ∧ X.cell? ⟨b, off + jj * 9 + 8, none⟩ = some (.slice d3 y.rs.length t3)) (X.setRow w.heap.size cs) := fun _ cs hx => by
    refine ⟨?_, ?_, ?_, ?_, ?_, ?_, ?_, ?_, ?_, ?_, ?_⟩ <;> rw [cell_setRow_other _ _ _ _ (by first | exact Nat.ne_of_lt hmb | exact Nat.ne_of_lt hlt)]
    · exact hx.1
    · exact hx.2.1
    · exact hx.2.2.1
    · exact hx.2.2.2.1
    · exact hx.2.2.2.2.1
    · exact hx.2.2.2.2.2.1
    · exact hx.2.2.2.2.2.2.1
    · exact hx.2.2.2.2.2.2.2.1
    · exact hx.2.2.2.2.2.2.2.2.1
    · exact hx.2.2.2.2.2.2.2.2.2.1
    · exact hx.2.2.2.2.2.2.2.2.2.2
   have HSB := D.zA0 SB
   have HSR := D.zA0 SR
   clear SB SR e0 e4 f0 f1 f2 f3 f4 f5 f6 f7 f8 hc h3 h4 hm hr
   go_wp2_with fail
   refine wp_region_noPanic ?_
   refine wp_region_held_drew (S := (fun X => X.cell? ⟨m.b, 0, none⟩ = some (.string m.k.nm) ∧ X.cell? ⟨m.b, 4, none⟩ = some (.slice (some ⟨b, off, none⟩) m.k.ms.length q3) ∧ X.cell? ⟨b, off + jj * 9, none⟩ = some (.string y.nm) ∧ X.cell? ⟨b, off + jj * 9 + 1, none⟩ = some (.string y.ds) ∧ X.cell? ⟨b, off + jj * 9 + 2, none⟩ = some (.bool y.st) ∧ X.cell? ⟨b, off + jj * 9 + 3, none⟩ = some (.bool y.nat) ∧ X.cell? ⟨b, off + jj * 9 + 4, none⟩ = some (.int .i64 y.stk) ∧ X.cell? ⟨b, off + jj * 9 + 5, none⟩ = some (.int .i64 y.loc) ∧ X.cell? ⟨b, off + jj * 9 + 6, none⟩ = some (.slice d1 y.code.length t1) ∧ X.cell? ⟨b, off + jj * 9 + 7, none⟩ = some (.slice d2 y.hs.length t2) ∧ X.cell? ⟨b, off + jj * 9 + 8, none⟩ = some (.slice d3 y.rs.length t3))) (by kernel_rfl) ?_ (fun hHeld => ?_)
   · (try dsimp only); first | exact HS1.out | exact HSB.out _ _ b3 HS1.out | exact HSR.out _ _ (HSB.out _ _ b3 HS1.out)
   refine tH 0 ?q0 rfl rfl ?q4 ?q5
   case q4 => intro w hSw; (try dsimp only at hSw); go_simp; try with_reducible rfl
   try simp only [Act.put, sq1, sq2, sq3]
   refine tH 1 ?q6 rfl rfl ?q7 ?q8
   case q7 => intro w hSw; (try dsimp only at hSw); go_simp; try with_reducible rfl
   try simp only [Act.put, sq1, sq2, sq3]
   refine tH 2 ?q9 rfl rfl ?qa ?qb
   case qa => intro w hSw; (try dsimp only at hSw); go_simp; try with_reducible rfl
   try simp only [Act.put, sq1, sq2, sq3]
   refine tH 3 ?qc rfl rfl ?qd ?qe
   case qd => intro w hSw; (try dsimp only at hSw); go_simp; try with_reducible rfl
   try simp only [Act.put, sq1, sq2, sq3]
   refine tH 4 ?qf rfl rfl ?qg ?qh
   case qg => intro w hSw; (try dsimp only at hSw); go_simp; try with_reducible rfl
   try simp only [Act.put, sq1, sq2, sq3]
   refine tH 5 ?qi rfl rfl ?qj ?qk
   case qj => intro w hSw; (try dsimp only at hSw); go_simp; try with_reducible rfl
   try simp only [Act.put, sq1, sq2, sq3]
   refine tH 6 ?ql rfl rfl ?qm ?qn
   case qm => intro w hSw; (try dsimp only at hSw); go_simp; try with_reducible rfl
   try simp only [Act.put, sq1, sq2, sq3]
   refine tH 7 ?qo rfl rfl ?qp ?qq
   case qp => intro w hSw; (try dsimp only at hSw); go_simp; try with_reducible rfl
   try simp only [Act.put, sq1, sq2, sq3]
   refine tH 8 ?qr rfl rfl ?qs ?qt
   case qs => intro w hSw; (try dsimp only at hSw); go_simp; try with_reducible rfl
   try simp only [Act.put, sq1, sq2, sq3]
   refine tH 9 ?qu rfl rfl ?qv ?qw
   case qv => intro w hSw; (try dsimp only at hSw); go_simp; try with_reducible rfl
   try simp only [Act.put, sq1, sq2, sq3]
   refine tH 10 ?qx rfl rfl ?qy ?qz
   case qy => intro w hSw; (try dsimp only at hSw); go_simp; try with_reducible rfl
   try simp only [Act.put, sq1, sq2, sq3]
   refine tH 11 ?qA rfl rfl ?qB ?qC
   case qB => intro w hSw; (try dsimp only at hSw); go_simp; try with_reducible rfl
   try simp only [Act.put, sq1, sq2, sq3]
   refine tH 12 ?qD rfl rfl ?qE ?qG
   case qE => intro w hSw; (try dsimp only at hSw); go_simp; try with_reducible rfl
   try simp only [Act.put, sq1, sq2, sq3]
   refine oH 13 rfl (fun K hK => ?_)
   go_simp
   refine hcp.out.mono ?_
   rintro e w3 ⟨b3, row3, rfl, hM3'⟩
   have hM3 := hM3'
   obtain ⟨h1, j1, h2, j2, h3, j3, rfl, _⟩ := hM3'
   have Y3 : Blk w3 w.heap.size #[.string ⟨#[]⟩, .string ⟨#[]⟩, .bool false, .bool false, .int .i64 0, .int .i64 0, .slice none 0 0, .slice none 0 0, .slice none 0 0] 39 := Blk.below (show Blk w2.drew w.heap.size _ _ from Y2) b3
   try go_wp2_with fail
   refine hK.out _ _ ?qH ?qI
   case qH => (try dsimp only); first | exact HS1.out | exact HSB.out _ _ b3 HS1.out | exact HSR.out _ _ (HSB.out _ _ b3 HS1.out)
   clear hK K hHeld
   intro hHeld
   try simp only [Act.put, sq1, sq2, sq3]
   refine tH 14 ?qJ rfl rfl ?qK ?qL
   case qK => intro w hSw; (try dsimp only at hSw); go_simp; try with_reducible rfl
   try simp only [Act.put, sq1, sq2, sq3]
   refine oH 15 rfl (fun K hK => ?_)
   refine zC5 rfl 39 _ _ rfl w.heap.size #[.string y.nm, .string y.ds, .bool y.st, .bool y.nat, .int .i64 y.stk, .int .i64 y.loc, .slice h1 y.code.length j1, .slice h2 y.hs.length j2, .slice h3 y.rs.length j3] rfl rfl 39 _ Y3 (by kernel_rfl) rfl (by simp [Value.oneCell']) ?_
   refine hK.out _ _ ?qN ?qO
   case qN => (try dsimp only); first | exact HS1.out | exact HSB.out _ _ b3 HS1.out | exact HSR.out _ _ (HSB.out _ _ b3 HS1.out)
   clear hK K hHeld
   intro hHeld
   try simp only [Act.put]
   refine tH 16 ?qP rfl rfl ?qQ ?qR
   case qQ => intro w hSw; (try dsimp only at hSw); go_simp; try with_reducible rfl
   try simp only [Act.put, sq1, sq2, sq3]
   refine eH ?_
   refine NoPanic.normal ?_
   go_wp2_with fail
   refine bodyPost_ret (zH5 rfl _ _ w.heap.size 39 _ (0, 0) _ rfl (setRow_heap _ _ _ _ _ _ Y3) Tryz.underlying39 rfl (by kernel_rfl)) rfl ?_
   have Eb : Ext (seen (newB w2.drew.heap.size) w3) (seen (newB w.heap.size) (w3.setRow w.heap.size #[.string y.nm, .string y.ds, .bool y.st, .bool y.nat, .int .i64 y.stk, .int .i64 y.loc, .slice h1 y.code.length j1, .slice h2 y.hs.length j2, .slice h3 y.rs.length j3])) :=
    zAl (by simp [World.setRow]) (fun b _ hb => by
     simp only [newB, decide_eq_true_eq] at hb
     have h1 := B2.size
     have h2 := Y2.lt
     have h3 : w2.drew.heap.size = w2.heap.size := rfl
     exact ⟨by simp [newB]; omega, setRow_other _ _ _ _ (by omega)⟩)
   exact ⟨zBn (next B2 (next (Below.refl _ w2).drew b3)) (Nat.le_refl _) _, y, _, hf, rfl, zB1.ext Eb hM3⟩
def zIx : List KD → ByteArray → Option KD
 | [], _ => none
 | m :: o, s => if s == m.nm then some m else zIx o s
def klin : List KD → ByteArray → List KD
 | [], _ => []
 | m :: o, s => if s == m.nm then m :: klin o m.sup else klin o s
theorem zL9 : ∀ (R : List Mem) (s : ByteArray), (zB7 R s).map Mem.k = zIx (R.map Mem.k) s
 | [], _ => rfl
 | m :: o, s => by
   simp only [zB7, zIx, List.map_cons]
   split
   · rfl
   · exact zL9 o s
theorem zNu : ∀ (R : List Mem) (s : ByteArray), (lin R s).map Mem.k = klin (R.map Mem.k) s
 | [], _ => rfl
 | m :: o, s => by
   simp only [lin, klin, List.map_cons]
   split
   · simp only [List.map_cons, zNu o]
   · exact zNu o s
def zN3 (q : KD → Int) : List KD → Option KD
 | [] => none
 | m :: l => if 0 ≤ q m then some m else zN3 q l
theorem zNg (q : KD → Int) : ∀ (l : List Mem), (near (fun m => q m.k) l).map Mem.k = zN3 q (l.map Mem.k)
 | [] => rfl
 | m :: l => by
   simp only [near, zN3, List.map_cons]
   split
   · rfl
   · exact zNg q l
def zHc (nm ds : ByteArray) (l : List KD) : Option MD := match zN3 (fun k => ixZ k.ms (isM nm ds)) l with | some m => m.ms.find? (isM nm ds) | none => none
theorem zQ7 (nm ds : ByteArray) (l : List Mem) : zLs nm ds l = zHc nm ds (l.map Mem.k) := by
 unfold zLs zHc
 have := zNg (fun k => ixZ k.ms (isM nm ds)) l
 rw [← this]
 show (match near (qM nm ds) l with | some m => _ | none => _) = _
 have e : (fun m : Mem => ixZ m.k.ms (isM nm ds)) = qM nm ds := rfl
 rw [e]
 cases near (qM nm ds) l <;> rfl
def zE2 (l : List KD) (x : MD) : Bool := match zHc x.nm x.ds l with | some y => y.st != x.st | none => false
theorem zO8 (l : List Mem) (x : MD) : zD7 l x = zE2 (l.map Mem.k) x := by
 unfold zD7 zE2
 rw [zQ7]
 cases zHc x.nm x.ds (l.map Mem.k) <;> rfl
def zMx (R : List KD) (k : KD) : Int :=
 if zD8 k = 0 then
  (if (zIx R k.nm).isSome then 23 else if 32 ≤ R.length then 4 else if (zIx R k.sup).isNone then 22 else if k.ms.any MD.nat then 12 else if k.ms.any (zE2 (klin R k.sup)) then 23 else 0)
 else zD8 k
theorem zLm (R : List Mem) (k : KD) : refZ R k = zMx (R.map Mem.k) k := by
 unfold refZ zMx
 have e1 : (zB7 R k.nm).isSome = (zIx (R.map Mem.k) k.nm).isSome := by rw [← zL9]; cases zB7 R k.nm <;> rfl
 have e2 : (zB7 R k.sup).isNone = (zIx (R.map Mem.k) k.sup).isNone := by rw [← zL9]; cases zB7 R k.sup <;> rfl
 have e3 : zD7 (lin R k.sup) = zE2 (klin (R.map Mem.k) k.sup) := by
  funext x
  rw [zO8, zNu]
 rw [e1, e2, e3, List.length_map]
theorem meth_k {R : List Mem} {cls nm ds : ByteArray} {w w' : World} {e : Ending} (h : zJl R cls nm ds w w' e) : match zN3 (fun k => ixZ k.ms (isM nm ds)) (klin (R.map Mem.k) cls) with
 | none => e = .returned (.tuple #[.string ⟨#[]⟩, .agg #[.string ⟨#[]⟩, .string ⟨#[]⟩, .bool false, .bool false, .int .i64 0, .int .i64 0, .slice none 0 0, .slice none 0 0, .slice none 0 0], .bool false])
 | some k => ∃ y row', k.ms.find? (isM nm ds) = some y ∧ e = .returned (.tuple #[.string k.nm, .agg (row' : List Value).toArray, .bool true]) ∧ zB1 (seen (newB w.heap.size) w') row' y := by
 unfold zJl at h
 have := zNg (fun k => ixZ k.ms (isM nm ds)) (lin R cls)
 rw [← zNu, ← this]
 have e : (fun m : Mem => ixZ m.k.ms (isM nm ds)) = qM nm ds := rfl
 rw [e]
 cases hn : near (qM nm ds) (lin R cls) with
 | none => rw [hn] at h; exact h
 | some m => rw [hn] at h; exact h
theorem zHw : ∀ k ∈ zBh, KSm k := by
 intro k hk
 refine ⟨?_, ?_, ?_, ?_⟩
 · revert k; decide
 · revert k; decide
 · revert k; decide
 · intro m hm
   refine ⟨?_, ?_, ?_, ?_⟩
   · revert hm; revert m; revert k; decide
   · revert hm; revert m; revert k; decide
   · revert hm; revert m; revert k; decide
   · have : m.rs = [] := by revert hm; revert m; revert k; decide
     rw [this]; simp
def zEt : ByteArray := ⟨#[65]⟩
theorem zQy : zMx zBh.reverse (zAs zEt ⟨#[66]⟩) = 22 := by decide +kernel
theorem zQ1 : zMx zBh.reverse (zAs zEt ⟨#[84, 104, 114, 101, 97, 100]⟩) = 0 := by decide +kernel
theorem zQe : klin (zAs zEt ⟨#[84, 104, 114, 101, 97, 100]⟩ :: zBh.reverse) ⟨#[73, 110, 100, 101, 120]⟩ = [zAs ⟨#[73, 110, 100, 101, 120]⟩ zA8, zAs zA8 zBb, zCa] := by rfl
theorem zPu : zN3 (fun k => ixZ k.ms (isM ⟨#[115, 116, 97, 114, 116]⟩ ⟨#[40, 41, 86]⟩)) (klin (zAs zEt ⟨#[84, 104, 114, 101, 97, 100]⟩ :: zBh.reverse) zEt) = some zFz := by kernel_rfl
theorem zPf : zFz.ms.find? (isM ⟨#[115, 116, 97, 114, 116]⟩ ⟨#[40, 41, 86]⟩) = some (natM ⟨#[115, 116, 97, 114, 116]⟩ ⟨#[40, 41, 86]⟩ false) := by kernel_rfl
end Go.Proofs.YtpehimfnkmepnaaGreat.K
namespace Go.Proofs.YtpehimfnkmepnaaGreat.KK
open Go.RowKit Q Q.D
theorem zH3 (l : Bs) : P3.D.zB9 l = zB9 l := by
 rw [Bool.eq_iff_iff, P3.D.zCm, zCm]
 exact Iff.rfl
theorem zIj (l : Bs) : P3.D.zB8 l = zB8 l := by
 rw [Bool.eq_iff_iff, P3.D.zD0, zD0]
 exact Iff.rfl
structure okM (m : MD) : Prop where
 a1 : 0 ≤ m.stk
 a2 : m.stk ≤ 16
 a3 : 0 ≤ m.loc
 a4 : m.loc ≤ 16
 a5 : m.code.length ≤ 1024
 h : m.hs.length ≤ 64
 r : m.rs.length ≤ 64
 hb : ∀ h ∈ m.hs, zI0 h = true
 pb : ∀ f ∈ m.rs, zGy f = true
 sb : ∀ f ∈ m.rs, f.loc.length ≤ 16 ∧ f.stk.length ≤ 16 ∧ ∀ s ∈ f.loc ++ f.stk, zEx s = true
theorem zDg {c : Prop} [Decidable c] {z a : Int} (hz : z ≠ 0) : (if c then z else a) = 0 ↔ ¬ c ∧ a = 0 := by
 by_cases h : c
 · rw [if_pos h]
   exact ⟨fun e => absurd e hz, fun e => absurd h e.1⟩
 · rw [if_neg h]
   exact ⟨fun e => ⟨h, e⟩, fun e => e.2⟩
theorem inB_iff {n m : Int} : inB n m = true ↔ 0 ≤ n ∧ n ≤ m := by simp [inB]
theorem zM9 (m : MD) : zH8 m = 0 ↔ (∀ h ∈ m.hs, zI0 h = true) ∧ (∀ f ∈ m.rs, zGy f = true) ∧ ∀ f ∈ m.rs, f.loc.length ≤ 16 ∧ f.stk.length ≤ 16 ∧ ∀ s ∈ f.loc ++ f.stk, zEx s = true := by
 unfold zH8
 rw [zDg (by decide), zDg (by decide), zDg (by decide)]
 simp only [Bool.not_eq_false, Bool.and_eq_true, List.all_eq_true, and_true]
 constructor
 · rintro ⟨⟨h1, h2⟩, h3, h4⟩
   refine ⟨h1, h2, fun f hf => ?_⟩
   have a := h3 f hf
   have b := h4 f hf
   simp only [zLa, Bool.and_eq_true, decide_eq_true_eq] at a
   simp only [zIl, Bool.and_eq_true, List.all_eq_true] at b
   exact ⟨a.1, a.2, fun s hs => (List.mem_append.1 hs).elim (b.1 s) (b.2 s)⟩
 · rintro ⟨h1, h2, h3⟩
   refine ⟨⟨h1, h2⟩, fun f hf => ?_, fun f hf => ?_⟩
   · simp only [zLa, Bool.and_eq_true, decide_eq_true_eq]
     exact ⟨(h3 f hf).1, (h3 f hf).2.1⟩
   · simp only [zIl, Bool.and_eq_true, List.all_eq_true]
     exact ⟨fun s hs => (h3 f hf).2.2 s (List.mem_append.2 (.inl hs)), fun s hs => (h3 f hf).2.2 s (List.mem_append.2 (.inr hs))⟩
theorem meth_zero (m : MD) (ahead : List MD) (hn : m.nat = false) : zFr m ahead = 0 ↔ (zB9 (bsB m.nm) = true ∧ zBj m.ds = true) ∧ (∀ g ∈ ahead, zIq m g = false) ∧ okM m := by
 unfold zFr
 rw [zDg (by decide), zDg (by decide), zDg (by decide), zDg (by decide), zDg (by decide), zM9, hn]
 simp only [Bool.not_eq_false, Bool.and_eq_true, Bool.not_eq_true, List.any_eq_false, inB_iff, decide_eq_true_eq, Bool.false_eq_true, false_and, not_false_eq_true, true_and]
 constructor
 · rintro ⟨h1, h2, ⟨⟨a1, a2⟩, ⟨a3, a4⟩, a5⟩, ⟨h, r⟩, hb, pb, sb⟩
   exact ⟨h1, h2, ⟨a1, a2, a3, a4, a5, h, r, hb, pb, sb⟩⟩
 · rintro ⟨h1, h2, o⟩
   exact ⟨h1, h2, ⟨⟨o.a1, o.a2⟩, ⟨o.a3, o.a4⟩, o.a5⟩, ⟨o.h, o.r⟩, o.hb, o.pb, o.sb⟩
def pc (c : CD) : P3.CD := ⟨c.kind, c.n, c.cls, c.nm, c.dsc⟩
theorem zP4 (l : Bs) : (P3.D.meth l).isSome = (meth l).isSome := by
 rw [Bool.eq_iff_iff]
 constructor
 · intro h
   obtain ⟨⟨ps, r⟩, e⟩ := Option.isSome_iff_exists.1 h
   have := zHf (l := l) (ps := ps) (r := r) (P3.D.zGv e)
   rw [this]; rfl
 · intro h
   obtain ⟨⟨ps, r⟩, e⟩ := Option.isSome_iff_exists.1 h
   have := P3.D.zHf (l := l) (ps := ps) (r := r) (zGv e)
   rw [this]; rfl
theorem zOb (l : Bs) : (P3.D.zF3 l).2 = (zF3 l).2 := by
 unfold P3.D.zF3 zF3
 rw [zIj]
theorem right_same (c : CD) : P3.zBd (pc c) = zBd c := by
 have h1 : P3.zD9 (pc c) = zD9 c := by
  show (P3.D.zB9 (bsB c.cls) && P3.D.zB9 (bsB c.nm)) = (zB9 (bsB c.cls) && zB9 (bsB c.nm))
  rw [zH3, zH3]
 have h2 : P3.zBj (pc c).dsc = zBj c.dsc := by
  show ((P3.D.meth (bsB c.dsc)).isSome && decide (c.dsc.size ≤ 256)) = _
  rw [zP4]; rfl
 have h3 : P3.zEw (pc c).cls = zEw c.cls := by
  show ((P3.D.zF3 (bsB c.cls)).2 || P3.D.zB9 (bsB c.cls)) = _
  rw [zH3, zOb]; rfl
 have h4 : P3.D.zB8 (P3.bsB (pc c).dsc) = zB8 (bsB c.dsc) := zIj _
 unfold P3.zBd zBd
 rw [h1, h2, h3, h4]
 rfl
end Go.Proofs.YtpehimfnkmepnaaGreat.KK
