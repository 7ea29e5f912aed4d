/- Texts KY KSm KN KK. -/
import Derived.Test.YtbmfkbgncjldjabGreatBu33
import Derived.Test.YtbmfkbgncjldjabGreatBu26
import Derived.Test.YtbmfkbgncjldjabGreatBu29
import Derived.Test.YtbmfkbgncjldjabGreatBu34
namespace Go.Proofs.YtbmfkbgncjldjabGreat.K
open Go.RowKit Go.ChangeMaps Q Q.D

def GivenR (R : List Mem) (i : Nat) : Prop := R.reverse.map Mem.k = givenK.take i

theorem mfind_not {R : List Mem} {s : ByteArray} (h : ∀ m ∈ R, (s == m.k.nm) = false) : mfind R s = none := by
  induction R with
  | nil => rfl
  | cons m o ih =>
    unfold mfind
    rw [h m (by simp)]
    exact ih (fun x hx => h x (by simp [hx]))
theorem given_apart : givenK.Pairwise (fun a b => (b.nm == a.nm) = false) := by decide

set_option maxRecDepth 8000 in
set_option maxHeartbeats 4000000 in
theorem new_any (w : World) : Calls Tryz.prog 5 #[] w fun e w' => ∃ pk mb v R, e = .returned (.pointer (some ⟨pk, 0, none⟩)) ∧ KinO w.heap.size w' pk mb v R ∧ R.reverse.map Mem.k = givenK ∧ Below w.heap.size w w' := by
  have hmm := @run_makeMap Tryz.prog
  go_enter Tryz.func5, Tryz.ntmps5
  go_wp2_with fail
  have K2 : KinO w.heap.size ((w.alloc (.map #[] 0)).alloc (.cells #[.slice none 0 0, .map (some w.heap.size)] 57)) (w.heap.size + 1) w.heap.size (.slice none 0 0) [] := by
    have hb := Blk.new (w.alloc (.map #[] 0)) #[.slice none 0 0, .map (some w.heap.size)] 57
    rw [World.size_alloc] at hb
    exact ⟨by omega, Nat.le_refl _, hb, World.ownsRow_nil _ _ _ _, ⟨#[], 0, (Below.heap_alloc _ _ _ (by simp)).trans (World.alloc_heap_new w _), rfl⟩, trivial⟩
  have B2 : Below w.heap.size w ((w.alloc (.map #[] 0)).alloc (.cells #[.slice none 0 0, .map (some w.heap.size)] 57)) := ((Below.refl _ w).alloc (Nat.le_refl _) _).alloc (by simp) _
  have hs2 : w.heap.size + 1 < ((w.alloc (.map #[] 0)).alloc (.cells #[.slice none 0 0, .map (some w.heap.size)] 57)).heap.size := by simp
  generalize (w.alloc (.map #[] 0)).alloc (.cells #[.slice none 0 0, .map (some w.heap.size)] 57) = W2 at *
  refine (given_any W2).mono ?_
  rintro e w3 ⟨v, rows, rfl, I⟩
  obtain ⟨gv, cv, rfl⟩ := own_form I.o (by decide)
  rw [show givenK.length = 13 from rfl] at *
  have hgv := I.o.lt gv rfl
  have hs3 := I.B.size
  clear hmm
  go_wp2_with fail
  go_loopw [9] (fun iv wr => ∃ (i : Nat) (vn : Value) (R : List Mem), iv = .int .i64 (i : Int) ∧ i ≤ 13 ∧ KinO w.heap.size wr (w.heap.size + 1) w.heap.size vn R ∧ GivenR R i ∧ Below w.heap.size w wr ∧ (w3.heap.size ≤ wr.heap.size ∧ ∀ b, W2.heap.size ≤ b → b < w3.heap.size → wr.heap[b]? = w3.heap[b]?) ∧ ∀ g, vn.ownBlock = some g → w3.heap.size ≤ g) (fun iv _ => 13 - (intOf iv).toNat)
  case atStart => exact ⟨0, _, [], rfl, by omega, K2.below I.B, rfl, next B2 I.B, ⟨Nat.le_refl _, fun _ _ _ => rfl⟩, fun g hg => by simp [Value.ownBlock] at hg⟩
  case round =>
    obtain ⟨i, vn, R, rfl, hi, KO, hG, B, ⟨hsz, hbl⟩, hvn⟩ := hrel
    clear K2
    by_cases hlt : i < 13
    · have hlt' : (i : Int) < 13 := by omega
      obtain ⟨k, hk⟩ : ∃ k, givenK[i]? = some k := ⟨_, List.getElem?_eq_getElem (show i < givenK.length from hlt)⟩
      have hC := I.r i k hk
      have hC' := hC
      obtain ⟨o1, c1, o2, c2, o3, c3, hr, -⟩ := hC'
      simp only [Value.agg.injEq] at hr
      have hrow : rows i = [.string k.nm, .string k.sup, .slice o1 k.pool.length c1, .slice o2 k.fs.length c2, .slice o3 k.ms.length c3] := by
        have := congrArg Array.toList hr
        simpa using this
      have hcell : ∀ t, t < 5 → wr.cell? ⟨gv, i * 5 + t, none⟩ = (rows i)[t]? := fun t ht => by
        have h1 := I.o.cellAt (i * 5 + t) (by omega)
        rw [flatR_at I.k i hlt t ht] at h1
        rw [← h1]
        unfold World.cell?
        rw [hbl gv hgv.1 hgv.2]
      have d0 : wr.cell? ⟨gv, i * 5, none⟩ = some (.string k.nm) := (hcell 0 (by omega)).trans (by rw [hrow]; rfl)
      have d1 : wr.cell? ⟨gv, i * 5 + 1, none⟩ = some (.string k.sup) := (hcell 1 (by omega)).trans (by rw [hrow]; rfl)
      have d2 : wr.cell? ⟨gv, i * 5 + 2, none⟩ = some (.slice o1 k.pool.length c1) := (hcell 2 (by omega)).trans (by rw [hrow]; rfl)
      have d3 : wr.cell? ⟨gv, i * 5 + 3, none⟩ = some (.slice o2 k.fs.length c2) := (hcell 3 (by omega)).trans (by rw [hrow]; rfl)
      have d4 : wr.cell? ⟨gv, i * 5 + 4, none⟩ = some (.slice o3 k.ms.length c3) := (hcell 4 (by omega)).trans (by rw [hrow]; rfl)
      have hnew : mfind R k.nm = none := mfind_not (fun m hm => by
        have h1 : m.k ∈ givenK.take i := by rw [← hG]; simp; exact ⟨m, hm, rfl⟩
        obtain ⟨j, hj⟩ := List.getElem?_of_mem h1
        rw [List.getElem?_take] at hj
        split at hj
        · rename_i hji
          have := List.pairwise_iff_getElem.1 given_apart j i (List.getElem?_eq_some_iff.1 hj).1 (List.getElem?_eq_some_iff.1 hk).1 hji
          rw [(List.getElem?_eq_some_iff.1 hj).2, (List.getElem?_eq_some_iff.1 hk).2] at this
          exact this
        · cases hj)
      have hRl : R.length = i := by
        have := congrArg List.length hG
        simp [show givenK.length = 13 from rfl] at this
        omega
      have KO4 := KO.below (balloc wr (.cells #[.string k.nm, .string k.sup, .slice o1 k.pool.length c1, .slice o2 k.fs.length c2, .slice o3 k.ms.length c3] 33))
      have hE : Ext (seen (newBut W2.heap.size (.slice (some ⟨gv, 0, none⟩) 13 cv)) w3) (seen (offK (w.heap.size + 1) w.heap.size vn) (wr.alloc (.cells #[.string k.nm, .string k.sup, .slice o1 k.pool.length c1, .slice o2 k.fs.length c2, .slice o3 k.ms.length c3] 33))) := seen_mono (by simp; omega) (fun b hb hx => by
        simp only [newBut, Bool.and_eq_true, decide_eq_true_eq] at hx
        refine ⟨offK_iff.2 ⟨by omega, by omega, fun e => by have := hvn b e; omega⟩, ?_⟩
        rw [(balloc wr _).block b (by omega), hbl b hx.1 hb])
      rw [hrow] at hC
      have hP := D.hidIt (put_core _ _ _ _ _ R KO4 k _ (ClassV.ext hE hC) hnew (by omega))
      have B4 := B.alloc (Nat.le_of_lt (Nat.lt_of_lt_of_le (show w.heap.size < W2.heap.size by omega) (by omega))) (.cells #[.string k.nm, .string k.sup, .slice o1 k.pool.length c1, .slice o2 k.fs.length c2, .slice o3 k.ms.length c3] 33)
      clear hcell hC hr hRl
      go_wp2_with fail
      refine hP.out.mono ?_
      rintro e w5 ⟨⟨u, rfl⟩, v5, b5, K5, st5, hv5⟩
      have hs5 := st5.size
      simp only [World.size_alloc] at hs5
      have G5 : GivenR (⟨k, b5⟩ :: R) (i + 1) := by
        unfold GivenR at hG ⊢
        rw [List.reverse_cons, List.map_append, hG, List.take_add_one, hk]; rfl
      have B5 : Below w.heap.size w w5 := ⟨st5.os.trans B4.os, st5.tape.trans B4.tape, st5.output.trans B4.output, Nat.le_trans B4.size st5.size, fun b hb => by
        rw [st5.block b (by have := B4.size; simp only [World.size_alloc] at this ⊢; omega) (by omega) (by omega) (fun e => by have := hvn b e; omega), B4.block b hb]⟩
      have hbl5 : ∀ b, W2.heap.size ≤ b → b < w3.heap.size → w5.heap[b]? = w3.heap[b]? := fun b h1 h2 => by
        rw [st5.block b (by simp; omega) (by omega) (by omega) (fun e => by have := hvn b e; omega), (balloc wr _).block b (by omega), hbl b h1 h2]
      have hv6 : ∀ g, v5.ownBlock = some g → w3.heap.size ≤ g := fun g hg => by
        rcases hv5 g hg with h | h
        · exact hvn g h
        · simp only [World.size_alloc] at h; omega
      go_wp2
      go_roundw
      case rel => exact ⟨i + 1, v5, _, by go_num, by omega, K5, G5, B5, ⟨by omega, hbl5⟩, hv6⟩
      case measure => simp [intOf]; omega
    · have hlt' : ¬ (i : Int) < 13 := by omega
      have : i = 13 := by omega
      subst this
      go_wp2
      go_ret
      exact ⟨_, rfl, _, _, _, KO, by rw [← List.map_reverse]; exact hG, B⟩
end Go.Proofs.YtbmfkbgncjldjabGreat.K
namespace Go.Proofs.YtbmfkbgncjldjabGreat.K
open Go.RowKit Q Q.D

set_option maxRecDepth 8000 in
set_option maxHeartbeats 2000000 in
theorem same_any (a1 : Option Addr) (c1 : Nat) (a2 : Option Addr) (c2 : Nat) (l : List ByteArray) (w : World) (h1 : LAt 1 TextR w a1 c1 l) (h2 : LAt 1 TextR w a2 c2 l) :
    Calls Tryz.prog 23 #[.slice a1 l.length c1, .slice a2 l.length c2] w fun e w' => e = .returned (.bool true) ∧ Below w.heap.size w w' := by
  have hbig := h1.big
  go_enter Tryz.func23, Tryz.ntmps23
  go_wp2
  go_loopw [5] (fun iv wr => ∃ i : Nat, iv = .int .i64 (i : Int) ∧ i ≤ l.length ∧ Below w.heap.size w wr) (fun iv _ => l.length - (intOf iv).toNat)
  case atStart => exact ⟨0, rfl, Nat.zero_le _, Below.refl _ _⟩
  case round =>
    obtain ⟨i, rfl, hi, hB⟩ := hrel
    by_cases hlt : i < l.length
    · have hlt' : (i : Int) < (l.length : Int) := by omega
      obtain ⟨_, _, r1, g1, k1⟩ := h1.below hB (fun _ _ h => h)
      obtain ⟨_, _, r2, g2, k2⟩ := h2.below hB (fun _ _ h => h)
      obtain ⟨b1, o1, rfl, _, d1⟩ := g1 (by omega)
      obtain ⟨b2, o2, rfl, _, d2⟩ := g2 (by omega)
      obtain ⟨x, hx⟩ : ∃ x, l[i]? = some x := ⟨_, List.getElem?_eq_getElem hlt⟩
      have e1 := d1 i hlt 0 (.string x) (by rw [(k1 i x hx).1]; rfl)
      have e2 := d2 i hlt 0 (.string x) (by rw [(k2 i x hx).1]; rfl)
      simp only [Nat.mul_one, Nat.add_zero] at e1 e2
      clear d1 d2 g1 g2 k1 k2
      go_wp2_with fail
      go_region
      all_goals go_wp2
      all_goals go_roundw
      all_goals first
        | exact ⟨i + 1, by go_num, by omega, hB.drew⟩
        | (simp [intOf]; omega)
    · have hlt' : ¬ (i : Int) < (l.length : Int) := by omega
      go_wp2
      go_ret
      exact ⟨rfl, hB⟩
end Go.Proofs.YtbmfkbgncjldjabGreat.K
namespace Go.Proofs.YtbmfkbgncjldjabGreat.K
open Go.RowKit Go.Shelf Q Q.D
attribute [local go_sem] Oper.semAt_some

def nmCells (l : List Mem) : List Value := l.map fun m => .string m.k.nm
theorem lin_le : ∀ (R : List Mem) (s : ByteArray), (lin R s).length ≤ R.length
  | [], _ => Nat.le_refl _
  | m :: o, s => by
    unfold lin
    split
    · have := lin_le o m.k.sup; simp; omega
    · have := lin_le o s; simp; omega
theorem Tryz.info9k : (Tryz.prog.info? 9).map (fun i => (i.zero, i.size, i.bytes)) = some (some (.string ⟨#[]⟩), 1, 16) := by kernel_rfl

theorem opIn_append {l n : Nat} {P : Program} {o : Oper} {a : Act} {w w' : World} {K : Act → World → Prop} {Q : Exit → Act → World → Prop} {X : Prop} {ys : Nat → Option Bool} {s x : Operand} {t : TypeId} {v vb v' : Value} (hw : o.guard = none)
    (ho : o.op = .call { callee := .builtin .append, args := #[s, x], argTypes := #[t, t] }) (hs : a.eval s = v) (hx : a.eval x = vb) (hr : (Builtin.append_ #[t, t] o.type #[v, vb]).run P w = .ok v' w') (h : K (a.put o.dst v') w') :
    if Region.wanted o ys = true then Oper.wpIn (Fence.wide.inRound l) n P o a w K Q else X := by
  rw [if_pos (by simp [Region.wanted, hw])]
  refine ⟨fun f hf => trivial, ?_⟩
  rw [show (Fence.wide.inRound l).round = some l from rfl, Oper.semAt_some l _ _ (fun c => by rw [ho]; simp)]
  unfold execOp
  simp only [ho, resolve, invoke, builtin, Sem.run_bind, Sem.run_pure, Result.andThen_ok, List.map_toArray, List.map_cons, List.map_nil, hs, hx, hr]
  exact h
def lineI (w W2 : World) (pre : List Mem) (W : World) : Prop :=
  (∃ v, Boxed W w.heap.size 34 v ∧ W.ownsRow w.heap.size 9 1 v pre.length (nmCells pre) ∧ True) ∧ Below w.heap.size w W ∧ Below w.heap.size W2 W

set_option maxRecDepth 100000 in
set_option maxHeartbeats 2000000 in
theorem kline_any (w : World) (pk : Nat) (R : List Mem) (mb : Nat) (ao : Option Addr) (c : Nat) (h : KinV w pk R mb ao c) (hR : R.length ≤ 1000000) (a : ByteArray) :
    Calls Tryz.prog 9 #[.pointer (some ⟨pk, 0, none⟩), .string a] w fun e w' => ∃ v, e = .returned v ∧ w'.ownsRow w.heap.size 9 1 v (lin R a).length (nmCells (lin R a)) ∧ Below w.heap.size w w' := by
  refine (callsIn_wide (n := 5)).1 ?_
  have B2 : Below w.heap.size w (w.alloc (.cells #[.slice none 0 0] 34)) := (Below.refl _ w).alloc (Nat.le_refl _) _
  have h2 := h.below B2
  have hl := h2.look a
  have e1 := h2.e1
  have hlen := lin_le R a
  refine callsIn_of_wp_marks Tryz.func9 rfl trivial ?_ rfl
  simp only [Tryz.ntmps9, List.size_toArray, List.length_cons, List.length_nil, Nat.reduceAdd, Nat.reduceSub, Array.replicate_succ, Array.replicate_zero, List.push_toArray, List.append_toArray, List.nil_append, List.cons_append]
  gi_wp2
  have hch := h.mems.chain a
  have hch2 := h2.mems.chain a
  have cb := Boxed.new w 34 (.slice none 0 0)
  generalize hp : mfind R a = p at hch hch2 ⊢
  generalize hW : w.alloc (.cells #[.slice none 0 0] 34) = W2 at *
  have hsz : W2.heap.size = w.heap.size + 1 := by rw [← hW]; simp
  refine wpIn_rangeRecv (α := Mem) (n := 5) rfl (enters_of Tryz.func22 (by kernel_rfl) rfl) enc (lin R a) (fun W => Below w.heap.size w W) rfl (line_any 4 w p (lin R a) hch)
    (lineI w W2) (fun _ _ => False)
    (OwnFrom.and (Own.from (holdsRow_own w.heap.size w.heap.size 34 9 1 (fun pre => pre.length) nmCells (fun _ _ => True)) _) (OwnFrom.and (own_below (by omega)) (ownFrom_below (by omega) (by omega))))
    (fun _ _ _ _ h _ _ => h)
    (fun _ _ h => h.2.1) ?start
    (fun x => { tmps := #[.pointer (some ⟨pk, 0, none⟩), .string a, undef, undef, .slice none 0 0, .pointer (some ⟨w.heap.size, 0, none⟩), .pointer (some ⟨x.b, 0, none⟩), .pointer (some ⟨pk, 0, none⟩), .pointer (some ⟨pk, 0, none⟩), .pointer (some ⟨pk, 1, none⟩), .map (some mb), .string a, ptr p, .func (.func 22) #[ptr p] #[], .pointer (some ⟨x.b, 0, none⟩), undef, undef, undef, undef, undef, undef, undef, undef, undef], defers := [] })
    ?assign ?body ?done ?stop
  case start =>
    exact ⟨⟨_, cb, World.ownsRow_nil _ _ _ _, trivial⟩, B2, Below.refl _ _⟩
  case assign =>
    intro l x W K hK
    unfold enc
    gi_wp2
    exact hK
  case body =>
    rintro l pre x rest W hx ⟨⟨v, hv, hown, _⟩, hB, hB2⟩
    obtain ⟨i0, hi, hz0, hz1, hz2⟩ := info_parts Tryz.info9k
    obtain ⟨ab, hm⟩ := (hch.ext (ext_below hB)).at x (by rw [hx]; simp)
    obtain ⟨_, _, _, _, _, _, hm⟩ := hm
    have hn := hm.e0
    clear hm
    have hplen : pre.length + 1 ≤ 1000000 := by have := congrArg List.length hx; simp at this; omega
    have hsW := hB.size
    obtain ⟨v', w1, hr, ho, hg, _, hat⟩ := run_append_own_at (P := Tryz.prog) (w := W.drew.alloc (.cells #[.string x.k.nm] 9)) w.heap.size 34 34 9 i0 (.string ⟨#[]⟩) 1 16 Tryz.underlying34 hi hz0 hz1 hz2 rfl (by decide) v pre.length (nmCells pre)
      ((show W.drew.ownsRow w.heap.size 9 1 v pre.length (nmCells pre) from hown).alloc _) ⟨W.heap.size, 0, none⟩ 1 1 [.string x.k.nm] rfl (fun j u hj => by
        match j, hj with
        | 0, hj => simp at hj; subst hj; exact (cell_new_l W.drew _ _).1
        | j + 1, hj => simp at hj) (by simp [Value.oneCell']) (by unfold maxLen; omega) (by omega) (by simp; omega)
    obtain ⟨hv1, hv2, hr2, hk2, hb2⟩ := (show Boxed W.drew w.heap.size 34 v from hv).appended (by decide) (show W.drew.ownsRow w.heap.size 9 1 v pre.length (nmCells pre) from hown) hsW (Nat.le_refl _) ho hg
    have hb2' : Below w.heap.size W (w1.setCell ⟨w.heap.size, 0, none⟩ v') := (show Below w.heap.size W W.drew from (Below.refl _ W).drew).trans hb2
    have hc := hv.cell
    have hc1 := hv1.cell
    have hf1 := hv1.frozen
    obtain ⟨g', cap', rfl⟩ := ownsRow_succ ho
    replace hr : (Builtin.append_ #[34, 34] 34 #[v, .slice (some ⟨W.heap.size, 0, none⟩) 1 1]).run Tryz.prog (W.alloc (.cells #[.string x.k.nm] 9)).drew = .ok (.slice (some ⟨g', 0, none⟩) (pre.length + 1) cap') w1 := hr
    have hn1 : (W.alloc (.cells #[.string x.k.nm] 9)).cell? ⟨w.heap.size, 0, none⟩ = some v := cell_older _ hc
    have hmx : Tryz.prog.follows .mixedOrders = true := by kernel_rfl
    have fin : ∀ a', roundEnd (lineI w W2) (fun _ _ => False) (pre ++ [x]) W .normal a' (w1.setCell ⟨w.heap.size, 0, none⟩ (.slice (some ⟨g', 0, none⟩) (pre.length + 1) cap')) := by
      intro a'
      refine ⟨(KeepsOthers.drew W).trans hk2, ⟨_, hv2, ?_, trivial⟩, hB.trans (hb2' : Below w.heap.size W _), hB2.trans hb2'⟩
      simpa [nmCells] using hr2
    gi_wp2
    refine wpIn_region_any hmx ?_
    try (change wpAnyIn _ _ _ _ _ _ _ _ _ (World.drew _))
    refine wpAnyIn_ready (rs := [0, 1]) (by kernel_rfl) (by simp) ?_
    refine AllReadyIn.cons rfl (fun K hK => ?_) ?_
    · go_simp
      refine hK _ _ ?_
      clear hK K
      refine wpAnyIn_ready (rs := [1]) (by kernel_rfl) (by simp) ?_
      refine AllReadyIn.cons rfl (fun K hK => ?_) ?_
      · go_simp
        refine hK _ _ ?_
        clear hK K
        refine wpAnyIn_ready (rs := [2]) (by kernel_rfl) (by simp) ?_
        refine AllReadyIn.cons rfl (fun K hK => ?_) ?_
        · go_simp
          refine hK _ _ ?_
          clear hK K
          refine wpAnyIn_ready (rs := [3]) (by kernel_rfl) (by simp) ?_
          refine AllReadyIn.cons rfl (fun K hK => ?_) ?_
          · go_simp
            refine hK _ _ ?_
            clear hK K
            refine wpAnyIn_ready (rs := [4]) (by kernel_rfl) (by simp) ?_
            refine AllReadyIn.cons rfl (fun K hK => ?_) ?_
            · go_simp
              refine hK _ _ ?_
              clear hK K
              refine wpAnyIn_ready (rs := [5]) (by kernel_rfl) (by simp) ?_
              refine AllReadyIn.cons rfl (fun K hK => ?_) ?_
              · go_simp
                refine hK _ _ ?_
                clear hK K
                refine wpAnyIn_ready (rs := [6]) (by kernel_rfl) (by simp) ?_
                refine AllReadyIn.cons rfl (fun K hK => ?_) ?_
                · go_simp
                  refine hK _ _ ?_
                  clear hK K
                  refine wpAnyIn_ready (rs := [7]) (by kernel_rfl) (by simp) ?_
                  refine AllReadyIn.cons rfl (fun K hK => ?_) ?_
                  · refine opIn_append (v := v) (vb := .slice (some ⟨W.heap.size, 0, none⟩) 1 1) rfl rfl rfl rfl hr ?_
                    refine hK _ _ ?_
                    clear hK K
                    refine wpAnyIn_ready (rs := [8]) (by kernel_rfl) (by simp) ?_
                    refine AllReadyIn.cons rfl (fun K hK => ?_) ?_
                    · go_simp
                      refine hK _ _ ?_
                      clear hK K
                      refine wpAnyIn_done (by kernel_rfl) ?_ _
                      gi_wp2
                      exact fin _
                    exact AllReadyIn.nil
                  exact AllReadyIn.nil
                exact AllReadyIn.nil
              exact AllReadyIn.nil
            exact AllReadyIn.nil
          exact AllReadyIn.nil
        exact AllReadyIn.nil
      exact AllReadyIn.nil
    refine AllReadyIn.cons rfl (fun K hK => ?_) ?_
    · go_simp
      refine hK _ _ ?_
      clear hK K
      refine wpAnyIn_ready (rs := [0, 2]) (by kernel_rfl) (by simp) ?_
      refine AllReadyIn.cons rfl (fun K hK => ?_) ?_
      · go_simp
        refine hK _ _ ?_
        clear hK K
        refine wpAnyIn_ready (rs := [2]) (by kernel_rfl) (by simp) ?_
        refine AllReadyIn.cons rfl (fun K hK => ?_) ?_
        · go_simp
          refine hK _ _ ?_
          clear hK K
          refine wpAnyIn_ready (rs := [3]) (by kernel_rfl) (by simp) ?_
          refine AllReadyIn.cons rfl (fun K hK => ?_) ?_
          · go_simp
            refine hK _ _ ?_
            clear hK K
            refine wpAnyIn_ready (rs := [4]) (by kernel_rfl) (by simp) ?_
            refine AllReadyIn.cons rfl (fun K hK => ?_) ?_
            · go_simp
              refine hK _ _ ?_
              clear hK K
              refine wpAnyIn_ready (rs := [5]) (by kernel_rfl) (by simp) ?_
              refine AllReadyIn.cons rfl (fun K hK => ?_) ?_
              · go_simp
                refine hK _ _ ?_
                clear hK K
                refine wpAnyIn_ready (rs := [6]) (by kernel_rfl) (by simp) ?_
                refine AllReadyIn.cons rfl (fun K hK => ?_) ?_
                · go_simp
                  refine hK _ _ ?_
                  clear hK K
                  refine wpAnyIn_ready (rs := [7]) (by kernel_rfl) (by simp) ?_
                  refine AllReadyIn.cons rfl (fun K hK => ?_) ?_
                  · refine opIn_append (v := v) (vb := .slice (some ⟨W.heap.size, 0, none⟩) 1 1) rfl rfl rfl rfl hr ?_
                    refine hK _ _ ?_
                    clear hK K
                    refine wpAnyIn_ready (rs := [8]) (by kernel_rfl) (by simp) ?_
                    refine AllReadyIn.cons rfl (fun K hK => ?_) ?_
                    · go_simp
                      refine hK _ _ ?_
                      clear hK K
                      refine wpAnyIn_done (by kernel_rfl) ?_ _
                      gi_wp2
                      exact fin _
                    exact AllReadyIn.nil
                  exact AllReadyIn.nil
                exact AllReadyIn.nil
              exact AllReadyIn.nil
            exact AllReadyIn.nil
          exact AllReadyIn.nil
        exact AllReadyIn.nil
      refine AllReadyIn.cons rfl (fun K hK => ?_) ?_
      · go_simp
        refine hK _ _ ?_
        clear hK K
        refine wpAnyIn_ready (rs := [0, 3]) (by kernel_rfl) (by simp) ?_
        refine AllReadyIn.cons rfl (fun K hK => ?_) ?_
        · go_simp
          refine hK _ _ ?_
          clear hK K
          refine wpAnyIn_ready (rs := [3]) (by kernel_rfl) (by simp) ?_
          refine AllReadyIn.cons rfl (fun K hK => ?_) ?_
          · go_simp
            refine hK _ _ ?_
            clear hK K
            refine wpAnyIn_ready (rs := [4]) (by kernel_rfl) (by simp) ?_
            refine AllReadyIn.cons rfl (fun K hK => ?_) ?_
            · go_simp
              refine hK _ _ ?_
              clear hK K
              refine wpAnyIn_ready (rs := [5]) (by kernel_rfl) (by simp) ?_
              refine AllReadyIn.cons rfl (fun K hK => ?_) ?_
              · go_simp
                refine hK _ _ ?_
                clear hK K
                refine wpAnyIn_ready (rs := [6]) (by kernel_rfl) (by simp) ?_
                refine AllReadyIn.cons rfl (fun K hK => ?_) ?_
                · go_simp
                  refine hK _ _ ?_
                  clear hK K
                  refine wpAnyIn_ready (rs := [7]) (by kernel_rfl) (by simp) ?_
                  refine AllReadyIn.cons rfl (fun K hK => ?_) ?_
                  · refine opIn_append (v := v) (vb := .slice (some ⟨W.heap.size, 0, none⟩) 1 1) rfl rfl rfl rfl hr ?_
                    refine hK _ _ ?_
                    clear hK K
                    refine wpAnyIn_ready (rs := [8]) (by kernel_rfl) (by simp) ?_
                    refine AllReadyIn.cons rfl (fun K hK => ?_) ?_
                    · go_simp
                      refine hK _ _ ?_
                      clear hK K
                      refine wpAnyIn_done (by kernel_rfl) ?_ _
                      gi_wp2
                      exact fin _
                    exact AllReadyIn.nil
                  exact AllReadyIn.nil
                exact AllReadyIn.nil
              exact AllReadyIn.nil
            exact AllReadyIn.nil
          exact AllReadyIn.nil
        refine AllReadyIn.cons rfl (fun K hK => ?_) ?_
        · go_simp
          refine hK _ _ ?_
          clear hK K
          refine wpAnyIn_ready (rs := [0, 4]) (by kernel_rfl) (by simp) ?_
          refine AllReadyIn.cons rfl (fun K hK => ?_) ?_
          · go_simp
            refine hK _ _ ?_
            clear hK K
            refine wpAnyIn_ready (rs := [4]) (by kernel_rfl) (by simp) ?_
            refine AllReadyIn.cons rfl (fun K hK => ?_) ?_
            · go_simp
              refine hK _ _ ?_
              clear hK K
              refine wpAnyIn_ready (rs := [5]) (by kernel_rfl) (by simp) ?_
              refine AllReadyIn.cons rfl (fun K hK => ?_) ?_
              · go_simp
                refine hK _ _ ?_
                clear hK K
                refine wpAnyIn_ready (rs := [6]) (by kernel_rfl) (by simp) ?_
                refine AllReadyIn.cons rfl (fun K hK => ?_) ?_
                · go_simp
                  refine hK _ _ ?_
                  clear hK K
                  refine wpAnyIn_ready (rs := [7]) (by kernel_rfl) (by simp) ?_
                  refine AllReadyIn.cons rfl (fun K hK => ?_) ?_
                  · refine opIn_append (v := v) (vb := .slice (some ⟨W.heap.size, 0, none⟩) 1 1) rfl rfl rfl rfl hr ?_
                    refine hK _ _ ?_
                    clear hK K
                    refine wpAnyIn_ready (rs := [8]) (by kernel_rfl) (by simp) ?_
                    refine AllReadyIn.cons rfl (fun K hK => ?_) ?_
                    · go_simp
                      refine hK _ _ ?_
                      clear hK K
                      refine wpAnyIn_done (by kernel_rfl) ?_ _
                      gi_wp2
                      exact fin _
                    exact AllReadyIn.nil
                  exact AllReadyIn.nil
                exact AllReadyIn.nil
              exact AllReadyIn.nil
            exact AllReadyIn.nil
          refine AllReadyIn.cons rfl (fun K hK => ?_) ?_
          · go_simp
            refine hK _ _ ?_
            clear hK K
            refine wpAnyIn_ready (rs := [0, 5]) (by kernel_rfl) (by simp) ?_
            refine AllReadyIn.cons rfl (fun K hK => ?_) ?_
            · go_simp
              refine hK _ _ ?_
              clear hK K
              refine wpAnyIn_ready (rs := [5]) (by kernel_rfl) (by simp) ?_
              refine AllReadyIn.cons rfl (fun K hK => ?_) ?_
              · go_simp
                refine hK _ _ ?_
                clear hK K
                refine wpAnyIn_ready (rs := [6]) (by kernel_rfl) (by simp) ?_
                refine AllReadyIn.cons rfl (fun K hK => ?_) ?_
                · go_simp
                  refine hK _ _ ?_
                  clear hK K
                  refine wpAnyIn_ready (rs := [7]) (by kernel_rfl) (by simp) ?_
                  refine AllReadyIn.cons rfl (fun K hK => ?_) ?_
                  · refine opIn_append (v := v) (vb := .slice (some ⟨W.heap.size, 0, none⟩) 1 1) rfl rfl rfl rfl hr ?_
                    refine hK _ _ ?_
                    clear hK K
                    refine wpAnyIn_ready (rs := [8]) (by kernel_rfl) (by simp) ?_
                    refine AllReadyIn.cons rfl (fun K hK => ?_) ?_
                    · go_simp
                      refine hK _ _ ?_
                      clear hK K
                      refine wpAnyIn_done (by kernel_rfl) ?_ _
                      gi_wp2
                      exact fin _
                    exact AllReadyIn.nil
                  exact AllReadyIn.nil
                exact AllReadyIn.nil
              exact AllReadyIn.nil
            refine AllReadyIn.cons rfl (fun K hK => ?_) ?_
            · go_simp
              refine hK _ _ ?_
              clear hK K
              refine wpAnyIn_ready (rs := [0, 6]) (by kernel_rfl) (by simp) ?_
              refine AllReadyIn.cons rfl (fun K hK => ?_) ?_
              · go_simp
                refine hK _ _ ?_
                clear hK K
                refine wpAnyIn_ready (rs := [6]) (by kernel_rfl) (by simp) ?_
                refine AllReadyIn.cons rfl (fun K hK => ?_) ?_
                · go_simp
                  refine hK _ _ ?_
                  clear hK K
                  refine wpAnyIn_ready (rs := [7]) (by kernel_rfl) (by simp) ?_
                  refine AllReadyIn.cons rfl (fun K hK => ?_) ?_
                  · refine opIn_append (v := v) (vb := .slice (some ⟨W.heap.size, 0, none⟩) 1 1) rfl rfl rfl rfl hr ?_
                    refine hK _ _ ?_
                    clear hK K
                    refine wpAnyIn_ready (rs := [8]) (by kernel_rfl) (by simp) ?_
                    refine AllReadyIn.cons rfl (fun K hK => ?_) ?_
                    · go_simp
                      refine hK _ _ ?_
                      clear hK K
                      refine wpAnyIn_done (by kernel_rfl) ?_ _
                      gi_wp2
                      exact fin _
                    exact AllReadyIn.nil
                  exact AllReadyIn.nil
                exact AllReadyIn.nil
              refine AllReadyIn.cons rfl (fun K hK => ?_) ?_
              · go_simp
                refine hK _ _ ?_
                clear hK K
                refine wpAnyIn_ready (rs := [0]) (by kernel_rfl) (by simp) ?_
                refine AllReadyIn.cons rfl (fun K hK => ?_) ?_
                · go_simp
                  refine hK _ _ ?_
                  clear hK K
                  refine wpAnyIn_ready (rs := [7]) (by kernel_rfl) (by simp) ?_
                  refine AllReadyIn.cons rfl (fun K hK => ?_) ?_
                  · refine opIn_append (v := v) (vb := .slice (some ⟨W.heap.size, 0, none⟩) 1 1) rfl rfl rfl rfl hr ?_
                    refine hK _ _ ?_
                    clear hK K
                    refine wpAnyIn_ready (rs := [8]) (by kernel_rfl) (by simp) ?_
                    refine AllReadyIn.cons rfl (fun K hK => ?_) ?_
                    · go_simp
                      refine hK _ _ ?_
                      clear hK K
                      refine wpAnyIn_done (by kernel_rfl) ?_ _
                      gi_wp2
                      exact fin _
                    exact AllReadyIn.nil
                  exact AllReadyIn.nil
                exact AllReadyIn.nil
              exact AllReadyIn.nil
            exact AllReadyIn.nil
          exact AllReadyIn.nil
        exact AllReadyIn.nil
      exact AllReadyIn.nil
    exact AllReadyIn.nil
  case done =>
    rintro D W hD ⟨⟨v, hv, hown, _⟩, hB, hB2⟩ hK
    have hc := hv.cell
    gi_wp2
    refine ⟨by simp, .inl ⟨_, _, rfl, run_takeDeferred hK, ?_⟩⟩
    exact ⟨_, results_tmp rfl _ _ _, _, rfl, ownsRow_putObj hown _ hK rfl, hB.trans (belowK_b (w := w) (Nat.le_refl _) W D _ _ (by omega) hK rfl rfl)⟩
  case stop =>
    rintro D pre W hD h
    exact h.elim
end Go.Proofs.YtbmfkbgncjldjabGreat.K
namespace Go.Proofs.YtbmfkbgncjldjabGreat.K
open Go.RowKit Q Q.D

theorem texts_flat (l : List ByteArray) : l.map Value.string = flatR (fun j => [.string (l.getD j ⟨#[]⟩)]) l.length := by
  refine List.ext_getElem? (fun y => ?_)
  have hk : ∀ j, j < l.length → ((fun j => [Value.string (l.getD j ⟨#[]⟩)]) j).length = 1 := fun j _ => rfl
  by_cases hy : y < l.length
  · have := flatR_at hk y hy 0 (by omega)
    rw [Nat.mul_one, Nat.add_zero] at this
    rw [this, List.getD_eq_getElem?_getD]
    simp [hy]
  · rw [List.getElem?_eq_none (by simp; omega), List.getElem?_eq_none (by rw [flatR_len hk]; omega)]
theorem own_texts {w : World} {B : Nat} {v : Value} {l : List ByteArray} (h : w.ownsRow B 9 1 v l.length (l.map Value.string)) (hs : ∀ s ∈ l, s.size ≤ 9223372036854775807) : ∃ ao c, v = .slice ao l.length c ∧ LAt 1 TextR w ao c l := by
  rw [texts_flat] at h
  obtain ⟨ao, c, rfl, l1, l2, hr⟩ := own_rows h (fun _ _ => rfl)
  refine ⟨ao, c, rfl, l1, l2, fun j => [.string (l.getD j ⟨#[]⟩)], RowsAt.ext hr (seen_ext _ _), fun i x hx => ⟨?_, hs x (List.mem_of_getElem? hx)⟩⟩
  simp only [List.getD_eq_getElem?_getD, hx]; rfl
theorem KStep.below {n0 : Nat} {W W' : World} {pk mb : Nat} {v : Value} {R : List Mem} (h : KinO n0 W pk mb v R) (st : KStep pk mb v W W') : Below n0 W W' :=
  ⟨st.os, st.tape, st.output, st.size, fun b hb => st.block b (by have := h.hpk; have := h.box.lt; omega) (by have := h.hpk; omega) (by have := h.hmb; omega) (fun e => by have := (h.own.lt b e).1; omega)⟩
theorem small_of_k {R : List Mem} {l : List KD} (h : R.map Mem.k = l) (hs : ∀ k ∈ l, KSm k) : ∀ m ∈ R, KSm m.k := fun m hm => hs _ (by rw [← h]; exact List.mem_map_of_mem hm)
theorem plain_small (n s : ByteArray) : KSm (plainK n s) := ⟨by simp [plainK], by simp [plainK], by simp [plainK], fun m hm => by simp [plainK] at hm⟩

set_option maxRecDepth 8000 in
set_option maxHeartbeats 4000000 in
theorem known_any (w : World) : Calls Tryz.prog 12 #[] w fun e w' => e = .returned (.bool true) ∧ Below w.heap.size w w' := by
  go_enter Tryz.func12, Tryz.ntmps12
  go_wp2_with fail
  refine (new_any w).mono ?_
  rintro e w1 ⟨pk, mb, v, R, rfl, KO, hR, B1⟩
  have hR' : R.map Mem.k = givenK.reverse := by rw [← hR, List.map_reverse, List.reverse_reverse]
  have hR0 : refZ R (plainK Alpha ⟨#[66]⟩) = 22 := by rw [refZ_k, hR']; exact k_known1
  have hR1 : refZ R (plainK Alpha ⟨#[84, 104, 114, 101, 97, 100]⟩) = 0 := by rw [refZ_k, hR']; exact k_known2
  have A1 := D.hidIt (add_any _ w1 pk mb v R KO (plainK Alpha ⟨#[66]⟩) _ (plain_class Alpha ⟨#[66]⟩ w1 (by decide) (by decide)))
  unfold AddIs at A1
  rw [hR0] at A1
  clear hR0 hR
  go_wp2_with fail
  refine A1.out.mono ?_
  rintro e w2 ⟨rfl, b2⟩
  rw [if_neg (by omega)] at b2
  clear A1
  have KO2 := KO.below b2
  have A2 := D.hidIt (add_any _ w2 pk mb v R KO2 (plainK Alpha ⟨#[84, 104, 114, 101, 97, 100]⟩) _ (plain_class Alpha ⟨#[84, 104, 114, 101, 97, 100]⟩ w2 (by decide) (by decide)))
  unfold AddIs at A2
  rw [hR1] at A2
  clear hR1
  go_wp2_with fail
  refine A2.out.mono ?_
  rintro e w3 ⟨rfl, hA⟩
  simp only [if_true] at hA
  obtain ⟨v3, bb, KO3, st3⟩ := hA
  clear A2
  have B3 : Below w.heap.size w w3 := (next B1 b2).trans (KStep.below KO2 st3)
  obtain ⟨ao, c, hv3, V3⟩ := KO3.view
  clear hv3
  have hR3 : (⟨plainK Alpha ⟨#[84, 104, 114, 101, 97, 100]⟩, bb⟩ :: R : List Mem).map Mem.k = plainK Alpha ⟨#[84, 104, 114, 101, 97, 100]⟩ :: givenK.reverse := by rw [List.map_cons, hR']
  have hsm : ∀ m ∈ (⟨plainK Alpha ⟨#[84, 104, 114, 101, 97, 100]⟩, bb⟩ :: R : List Mem), KSm m.k := small_of_k hR3 (fun k hk => by
    rcases List.mem_cons.1 hk with rfl | h
    · exact plain_small _ _
    · exact given_small k (by simpa using h))
  have hlenR : R.length = 13 := by have := congrArg List.length hR'; rw [List.length_map] at this; exact this
  have M3 := D.hidIt (meth_find w3 pk _ mb ao c V3 hsm Alpha ⟨#[115, 116, 97, 114, 116]⟩ ⟨#[40, 41, 86]⟩)
  generalize hRR : (⟨plainK Alpha ⟨#[84, 104, 114, 101, 97, 100]⟩, bb⟩ :: R : List Mem) = RR at *
  have hlen3 : RR.length ≤ 1000000 := by rw [← hRR]; simp; omega
  clear hlenR hRR
  go_wp2_with fail
  refine M3.out.mono ?_
  rintro e w4 ⟨b4, hM⟩
  have hM' := meth_k hM
  rw [hR3, k_known4] at hM'
  obtain ⟨y, row', hy, rfl, hrow⟩ := hM'
  rw [k_known5] at hy
  cases hy
  obtain ⟨q1, p1, q2, p2, q3, p3, rfl, -⟩ := hrow
  clear hM M3
  have V4 := V3.below b4
  have B4 := B3.trans (b4.mono B3.size)
  simp only [natM, threadK, List.length_nil]
  go_wp2_with fail
  have b5 := balloc w4 (.cells #[.string ⟨#[115, 116, 97, 114, 116]⟩, .string ⟨#[40, 41, 86]⟩, .bool false, .bool true, .int .i64 0, .int .i64 0, .slice q1 0 p1, .slice q2 0 p2, .slice q3 0 p3] 48)
  have F5 := Blk.new w4 #[.string ⟨#[115, 116, 97, 114, 116]⟩, .string ⟨#[40, 41, 86]⟩, .bool false, .bool true, .int .i64 0, .int .i64 0, .slice q1 0 p1, .slice q2 0 p2, .slice q3 0 p3] 48
  generalize w4.alloc (.cells #[.string ⟨#[115, 116, 97, 114, 116]⟩, .string ⟨#[40, 41, 86]⟩, .bool false, .bool true, .int .i64 0, .int .i64 0, .slice q1 0 p1, .slice q2 0 p2, .slice q3 0 p3] 48) = W5 at *
  have V5 := V4.below b5
  have L5 := D.hidIt (kline_any W5 pk RR mb ao c V5 hlen3 ⟨#[73, 110, 100, 101, 120]⟩)
  refine L5.out.mono ?_
  rintro e w6 ⟨v6, rfl, ho6, b6⟩
  have hl : (lin RR ⟨#[73, 110, 100, 101, 120]⟩).map Mem.k = [plainK ⟨#[73, 110, 100, 101, 120]⟩ throwableN, plainK throwableN objectN, objectK] := by rw [lin_k, hR3]; exact k_known3
  have hl1 : (lin RR ⟨#[73, 110, 100, 101, 120]⟩).length = 3 := by have := congrArg List.length hl; rw [List.length_map] at this; exact this
  have hl2 : nmCells (lin RR ⟨#[73, 110, 100, 101, 120]⟩) = [⟨#[73, 110, 100, 101, 120]⟩, throwableN, objectN].map Value.string := by
    have : nmCells (lin RR ⟨#[73, 110, 100, 101, 120]⟩) = ((lin RR ⟨#[73, 110, 100, 101, 120]⟩).map Mem.k).map (fun k => .string k.nm) := by simp [nmCells]
    rw [this, hl]; rfl
  rw [hl1, hl2] at ho6
  have hsz : ∀ s ∈ [(⟨#[73, 110, 100, 101, 120]⟩ : ByteArray), throwableN, objectN], s.size ≤ 9223372036854775807 := by decide
  obtain ⟨a6, p6, rfl, T6⟩ := own_texts (l := [⟨#[73, 110, 100, 101, 120]⟩, throwableN, objectN]) ho6 hsz
  clear ho6 hl hl1 hl2 L5
  have b7 := balloc w6 (.cells #[.string ⟨#[73, 110, 100, 101, 120]⟩, .string throwableN, .string objectN] 9)
  have ho7 := World.ownsRow_lit (e := 9) (size := 1) (base := w6.heap.size) w6 #[.string ⟨#[73, 110, 100, 101, 120]⟩, .string throwableN, .string objectN] 3 (Nat.le_refl _) (by unfold maxLen; omega) rfl
  obtain ⟨a7, p7, e7, T7⟩ := own_texts (l := [⟨#[73, 110, 100, 101, 120]⟩, throwableN, objectN]) ho7 hsz
  cases e7
  have S7 := D.hidIt (same_any a6 p6 (some ⟨w6.heap.size, 0, none⟩) 3 _ _ (T6.below b7 (fun _ _ h => h)) T7)
  unfold throwableN objectN at S7 b7
  have F7 := ((F5.below b6).below b7)
  simp only [List.length_cons, List.length_nil, Nat.zero_add, Nat.reduceAdd] at S7 ⊢
  go_wp2_with fail
  generalize w6.alloc (.cells #[.string ⟨#[73, 110, 100, 101, 120]⟩, .string ⟨#[84, 104, 114, 111, 119, 97, 98, 108, 101]⟩, .string ⟨#[79, 98, 106, 101, 99, 116]⟩] 9) = W7 at *
  refine S7.out.mono ?_
  rintro e w8 ⟨rfl, b8⟩
  have hn := (F7.below b8).cell 3
  simp at hn
  go_wp2
  go_ret
  exact ⟨rfl, B4.trans ((next b5 (next b6 (next b7 b8))).mono B4.size)⟩
end Go.Proofs.YtbmfkbgncjldjabGreat.K
