/- Texts KU KZ KO KY KSm KN KK KOa KOb KOc. -/
import Derived.Test.YtccbgdbipihoaaaGreatBw32
import Derived.Test.YtccbgdbipihoaaaGreatBw33
import Derived.Test.YtccbgdbipihoaaaGreatBw26
import Derived.Test.YtccbgdbipihoaaaGreatBw29
namespace Go.Proofs.YtccbgdbipihoaaaGreat.K
open Go.RowKit Q Q.D

theorem op_store_row {P : Program} {ops : Array Oper} {o : Oper} {a : Act} {w : World} {K : Act → World → Prop} {Q : Exit → Act → World → Prop} {E : Prop} (hgd : o.guard = none) (ty : TypeId) (x y : Operand) (ho : o.op = .store ty x y)
    (g : Nat) (cells : Array Value) (hx : a.eval x = .pointer (some ⟨g, 0, none⟩)) (hy : a.eval y = .agg cells)
    (t : TypeId) (old : Array Value) (hg : w.heap[g]? = some (.cells old t (0, 0))) (hi : (P.info? ty).map (·.size) = some cells.size)
    (hold : old.size = cells.size) (h1 : cells.all (·.oneCell') = true) (h : K (a.put o.dst undef) (w.setRow g cells)) :
    if Region.wanted o (yielded ops a.tmps) = true then Oper.wp P o a w K Q else E := by
  rw [if_pos (by simp [Region.wanted, hgd])]
  exact wp_store_row ty x y ho g cells hx hy t old hg hi hold h1 h

end Go.Proofs.YtccbgdbipihoaaaGreat.K
namespace Go.Proofs.YtccbgdbipihoaaaGreat.K
open Go.RowKit Q Q.D

def kfind : List KD → ByteArray → Option KD
  | [], _ => none
  | m :: o, s => if s == m.nm then some m else kfind o s
def klin : List KD → ByteArray → List KD
  | [], _ => []
  | m :: o, s => if s == m.nm then m :: klin o m.sup else klin o s
theorem mfind_k : ∀ (R : List Mem) (s : ByteArray), (mfind R s).map Mem.k = kfind (R.map Mem.k) s
  | [], _ => rfl
  | m :: o, s => by
    simp only [mfind, kfind, List.map_cons]
    split
    · rfl
    · exact mfind_k o s
theorem lin_k : ∀ (R : List Mem) (s : ByteArray), (lin R s).map Mem.k = klin (R.map Mem.k) s
  | [], _ => rfl
  | m :: o, s => by
    simp only [lin, klin, List.map_cons]
    split
    · simp only [List.map_cons, lin_k o]
    · exact lin_k o s
def knear (q : KD → Int) : List KD → Option KD
  | [] => none
  | m :: l => if 0 ≤ q m then some m else knear q l
theorem near_k (q : KD → Int) : ∀ (l : List Mem), (near (fun m => q m.k) l).map Mem.k = knear q (l.map Mem.k)
  | [] => rfl
  | m :: l => by
    simp only [near, knear, List.map_cons]
    split
    · rfl
    · exact near_k q l
def kfoundM (nm ds : ByteArray) (l : List KD) : Option MD := match knear (fun k => ixZ k.ms (isM nm ds)) l with | some m => m.ms.find? (isM nm ds) | none => none
theorem foundM_k (nm ds : ByteArray) (l : List Mem) : foundM nm ds l = kfoundM nm ds (l.map Mem.k) := by
  unfold foundM kfoundM
  have := near_k (fun k => ixZ k.ms (isM nm ds)) l
  rw [← this]
  show (match near (qM nm ds) l with | some m => _ | none => _) = _
  have e : (fun m : Mem => ixZ m.k.ms (isM nm ds)) = qM nm ds := rfl
  rw [e]
  cases near (qM nm ds) l <;> rfl
def kcontraB (l : List KD) (x : MD) : Bool := match kfoundM x.nm x.ds l with | some y => y.st != x.st | none => false
theorem contraB_k (l : List Mem) (x : MD) : contraB l x = kcontraB (l.map Mem.k) x := by
  unfold contraB kcontraB
  rw [foundM_k]
  cases kfoundM x.nm x.ds (l.map Mem.k) <;> rfl
def krefZ (R : List KD) (k : KD) : Int :=
  if rightZ k = 0 then
    (if (kfind R k.nm).isSome then 23 else if 32 ≤ R.length then 4 else if (kfind R k.sup).isNone then 22 else if k.ms.any MD.nat then 12 else if k.ms.any (kcontraB (klin R k.sup)) then 23 else 0)
  else rightZ k
theorem refZ_k (R : List Mem) (k : KD) : refZ R k = krefZ (R.map Mem.k) k := by
  unfold refZ krefZ
  have e1 : (mfind R k.nm).isSome = (kfind (R.map Mem.k) k.nm).isSome := by rw [← mfind_k]; cases mfind R k.nm <;> rfl
  have e2 : (mfind R k.sup).isNone = (kfind (R.map Mem.k) k.sup).isNone := by rw [← mfind_k]; cases mfind R k.sup <;> rfl
  have e3 : contraB (lin R k.sup) = kcontraB (klin (R.map Mem.k) k.sup) := by
    funext x
    rw [contraB_k, lin_k]
  rw [e1, e2, e3, List.length_map]
theorem given_small : ∀ k ∈ givenK, KSm k := by
  intro k hk
  refine ⟨?_, ?_, ?_, ?_⟩
  · revert k; decide
  · revert k; decide
  · revert k; decide
  · intro m hm
    refine ⟨?_, ?_, ?_, ?_⟩
    · revert hm; revert m; revert k; decide
    · revert hm; revert m; revert k; decide
    · revert hm; revert m; revert k; decide
    · have : m.rs = [] := by revert hm; revert m; revert k; decide
      rw [this]; simp

end Go.Proofs.YtccbgdbipihoaaaGreat.K
namespace Go.Proofs.YtccbgdbipihoaaaGreat.K
open Go.RowKit Q Q.D

def KWf : List KD → Prop
  | [] => True
  | k :: o => kfind o k.nm = none ∧ ((o = [] ∧ k.nm = objectN) ∨ ∃ m, kfind o k.sup = some m) ∧ KWf o
theorem beq_true {a b : ByteArray} : (a == b) = true ↔ a = b := MapKept.bytes_beq a b
theorem kref_ok {R : List KD} {k : KD} (h : krefZ R k = 0) : kfind R k.nm = none ∧ R.length < 32 ∧ ∃ m, kfind R k.sup = some m := by
  unfold krefZ at h
  split at h
  case isFalse hr => exact absurd h hr
  split at h
  · cases h
  · split at h
    · cases h
    · split at h
      · cases h
      · rename_i h2 h3 h4
        refine ⟨?_, by omega, ?_⟩
        · cases e : kfind R k.nm with
          | none => rfl
          | some m => rw [e] at h2; simp at h2
        · cases e : kfind R k.sup with
          | none => rw [e] at h4; simp at h4
          | some m => exact ⟨m, rfl⟩
theorem KWf.add {R : List KD} {k : KD} (hw : KWf R) (h : krefZ R k = 0) : KWf (k :: R) := ⟨(kref_ok h).1, .inr (kref_ok h).2.2, hw⟩
def kwfB : List KD → Bool
  | [] => true
  | k :: o => (kfind o k.nm).isNone && ((o.isEmpty && (k.nm == objectN)) || (kfind o k.sup).isSome) && kwfB o
theorem kwf_of : ∀ {R : List KD}, kwfB R = true → KWf R
  | [], _ => trivial
  | k :: o, h => by
    unfold kwfB at h
    simp only [Bool.and_eq_true, Bool.or_eq_true] at h
    obtain ⟨⟨h1, h2⟩, h3⟩ := h
    refine ⟨Option.isNone_iff_eq_none.1 h1, ?_, kwf_of h3⟩
    rcases h2 with ⟨h2, h4⟩ | h2
    · exact .inl ⟨List.isEmpty_iff.1 h2, beq_true.1 h4⟩
    · exact .inr (Option.isSome_iff_exists.1 h2)
theorem kwf_given : KWf givenK.reverse := kwf_of (by decide +kernel)
end Go.Proofs.YtccbgdbipihoaaaGreat.K
namespace Go.Proofs.YtccbgdbipihoaaaGreat.K
open Go.RowKit Go.ChangeMaps Q Q.D

def GivenR (R : List Mem) (i : Nat) : Prop := R.reverse.map Mem.k = givenK.take i

theorem mfind_not {R : List Mem} {s : ByteArray} (h : ∀ m ∈ R, (s == m.k.nm) = false) : mfind R s = none := by
  induction R with
  | nil => rfl
  | cons m o ih =>
    unfold mfind
    rw [h m (by simp)]
    exact ih (fun x hx => h x (by simp [hx]))
theorem given_apart : givenK.Pairwise (fun a b => (b.nm == a.nm) = false) := by decide

set_option maxRecDepth 8000 in
set_option maxHeartbeats 4000000 in
theorem new_any (w : World) : Calls Tryz.prog 7 #[] w fun e w' => ∃ pk mb v R, e = .returned (.pointer (some ⟨pk, 0, none⟩)) ∧ KinO w.heap.size w' pk mb v R ∧ R.reverse.map Mem.k = givenK ∧ Below w.heap.size w w' := by
  have hmm := @run_makeMap Tryz.prog
  go_enter Tryz.func7, Tryz.ntmps7
  go_wp2_with fail
  have K2 : KinO w.heap.size ((w.alloc (.map #[] 0)).alloc (.cells #[.slice none 0 0, .map (some w.heap.size)] 84)) (w.heap.size + 1) w.heap.size (.slice none 0 0) [] := by
    have hb := Blk.new (w.alloc (.map #[] 0)) #[.slice none 0 0, .map (some w.heap.size)] 84
    rw [World.size_alloc] at hb
    exact ⟨by omega, Nat.le_refl _, hb, World.ownsRow_nil _ _ _ _, ⟨#[], 0, (Below.heap_alloc _ _ _ (by simp)).trans (World.alloc_heap_new w _), rfl⟩, trivial⟩
  have B2 : Below w.heap.size w ((w.alloc (.map #[] 0)).alloc (.cells #[.slice none 0 0, .map (some w.heap.size)] 84)) := ((Below.refl _ w).alloc (Nat.le_refl _) _).alloc (by simp) _
  have hs2 : w.heap.size + 1 < ((w.alloc (.map #[] 0)).alloc (.cells #[.slice none 0 0, .map (some w.heap.size)] 84)).heap.size := by simp
  generalize (w.alloc (.map #[] 0)).alloc (.cells #[.slice none 0 0, .map (some w.heap.size)] 84) = W2 at *
  refine (given_any W2).mono ?_
  rintro e w3 ⟨v, rows, rfl, I⟩
  obtain ⟨gv, cv, rfl⟩ := own_form I.o (by decide)
  rw [show givenK.length = 13 from rfl] at *
  have hgv := I.o.lt gv rfl
  have hs3 := I.B.size
  clear hmm
  go_wp2_with fail
  go_loopw [9] (fun iv wr => ∃ (i : Nat) (vn : Value) (R : List Mem), iv = .int .i64 (i : Int) ∧ i ≤ 13 ∧ KinO w.heap.size wr (w.heap.size + 1) w.heap.size vn R ∧ GivenR R i ∧ Below w.heap.size w wr ∧ (w3.heap.size ≤ wr.heap.size ∧ ∀ b, W2.heap.size ≤ b → b < w3.heap.size → wr.heap[b]? = w3.heap[b]?) ∧ ∀ g, vn.ownBlock = some g → w3.heap.size ≤ g) (fun iv _ => 13 - (intOf iv).toNat)
  case atStart => exact ⟨0, _, [], rfl, by omega, K2.below I.B, rfl, next B2 I.B, ⟨Nat.le_refl _, fun _ _ _ => rfl⟩, fun g hg => by simp [Value.ownBlock] at hg⟩
  case round =>
    obtain ⟨i, vn, R, rfl, hi, KO, hG, B, ⟨hsz, hbl⟩, hvn⟩ := hrel
    clear K2
    by_cases hlt : i < 13
    · have hlt' : (i : Int) < 13 := by omega
      obtain ⟨k, hk⟩ : ∃ k, givenK[i]? = some k := ⟨_, List.getElem?_eq_getElem (show i < givenK.length from hlt)⟩
      have hC := I.r i k hk
      have hC' := hC
      obtain ⟨o1, c1, o2, c2, o3, c3, hr, -⟩ := hC'
      simp only [Value.agg.injEq] at hr
      have hrow : rows i = [.string k.nm, .string k.sup, .slice o1 k.pool.length c1, .slice o2 k.fs.length c2, .slice o3 k.ms.length c3] := by
        have := congrArg Array.toList hr
        simpa using this
      have hcell : ∀ t, t < 5 → wr.cell? ⟨gv, i * 5 + t, none⟩ = (rows i)[t]? := fun t ht => by
        have h1 := I.o.cellAt (i * 5 + t) (by omega)
        rw [flatR_at I.k i hlt t ht] at h1
        rw [← h1]
        unfold World.cell?
        rw [hbl gv hgv.1 hgv.2]
      have d0 : wr.cell? ⟨gv, i * 5, none⟩ = some (.string k.nm) := (hcell 0 (by omega)).trans (by rw [hrow]; rfl)
      have d1 : wr.cell? ⟨gv, i * 5 + 1, none⟩ = some (.string k.sup) := (hcell 1 (by omega)).trans (by rw [hrow]; rfl)
      have d2 : wr.cell? ⟨gv, i * 5 + 2, none⟩ = some (.slice o1 k.pool.length c1) := (hcell 2 (by omega)).trans (by rw [hrow]; rfl)
      have d3 : wr.cell? ⟨gv, i * 5 + 3, none⟩ = some (.slice o2 k.fs.length c2) := (hcell 3 (by omega)).trans (by rw [hrow]; rfl)
      have d4 : wr.cell? ⟨gv, i * 5 + 4, none⟩ = some (.slice o3 k.ms.length c3) := (hcell 4 (by omega)).trans (by rw [hrow]; rfl)
      have hnew : mfind R k.nm = none := mfind_not (fun m hm => by
        have h1 : m.k ∈ givenK.take i := by rw [← hG]; simp; exact ⟨m, hm, rfl⟩
        obtain ⟨j, hj⟩ := List.getElem?_of_mem h1
        rw [List.getElem?_take] at hj
        split at hj
        · rename_i hji
          have := List.pairwise_iff_getElem.1 given_apart j i (List.getElem?_eq_some_iff.1 hj).1 (List.getElem?_eq_some_iff.1 hk).1 hji
          rw [(List.getElem?_eq_some_iff.1 hj).2, (List.getElem?_eq_some_iff.1 hk).2] at this
          exact this
        · cases hj)
      have hRl : R.length = i := by
        have := congrArg List.length hG
        simp [show givenK.length = 13 from rfl] at this
        omega
      have KO4 := KO.below (balloc wr (.cells #[.string k.nm, .string k.sup, .slice o1 k.pool.length c1, .slice o2 k.fs.length c2, .slice o3 k.ms.length c3] 43))
      have hE : Ext (seen (newBut W2.heap.size (.slice (some ⟨gv, 0, none⟩) 13 cv)) w3) (seen (offK (w.heap.size + 1) w.heap.size vn) (wr.alloc (.cells #[.string k.nm, .string k.sup, .slice o1 k.pool.length c1, .slice o2 k.fs.length c2, .slice o3 k.ms.length c3] 43))) := seen_mono (by simp; omega) (fun b hb hx => by
        simp only [newBut, Bool.and_eq_true, decide_eq_true_eq] at hx
        refine ⟨offK_iff.2 ⟨by omega, by omega, fun e => by have := hvn b e; omega⟩, ?_⟩
        rw [(balloc wr _).block b (by omega), hbl b hx.1 hb])
      rw [hrow] at hC
      have hP := D.hidIt (put_core _ _ _ _ _ R KO4 k _ (ClassV.ext hE hC) hnew (by omega))
      have B4 := B.alloc (Nat.le_of_lt (Nat.lt_of_lt_of_le (show w.heap.size < W2.heap.size by omega) (by omega))) (.cells #[.string k.nm, .string k.sup, .slice o1 k.pool.length c1, .slice o2 k.fs.length c2, .slice o3 k.ms.length c3] 43)
      clear hcell hC hr hRl
      go_wp2_with fail
      refine hP.out.mono ?_
      rintro e w5 ⟨⟨u, rfl⟩, v5, b5, K5, st5, hv5⟩
      have hs5 := st5.size
      simp only [World.size_alloc] at hs5
      have G5 : GivenR (⟨k, b5⟩ :: R) (i + 1) := by
        unfold GivenR at hG ⊢
        rw [List.reverse_cons, List.map_append, hG, List.take_add_one, hk]; rfl
      have B5 : Below w.heap.size w w5 := ⟨st5.os.trans B4.os, st5.tape.trans B4.tape, st5.output.trans B4.output, Nat.le_trans B4.size st5.size, fun b hb => by
        rw [st5.block b (by have := B4.size; simp only [World.size_alloc] at this ⊢; omega) (by omega) (by omega) (fun e => by have := hvn b e; omega), B4.block b hb]⟩
      have hbl5 : ∀ b, W2.heap.size ≤ b → b < w3.heap.size → w5.heap[b]? = w3.heap[b]? := fun b h1 h2 => by
        rw [st5.block b (by simp; omega) (by omega) (by omega) (fun e => by have := hvn b e; omega), (balloc wr _).block b (by omega), hbl b h1 h2]
      have hv6 : ∀ g, v5.ownBlock = some g → w3.heap.size ≤ g := fun g hg => by
        rcases hv5 g hg with h | h
        · exact hvn g h
        · simp only [World.size_alloc] at h; omega
      go_wp2
      go_roundw
      case rel => exact ⟨i + 1, v5, _, by go_num, by omega, K5, G5, B5, ⟨by omega, hbl5⟩, hv6⟩
      case measure => simp [intOf]; omega
    · have hlt' : ¬ (i : Int) < 13 := by omega
      have : i = 13 := by omega
      subst this
      go_wp2
      go_ret
      exact ⟨_, rfl, _, _, _, KO, by rw [← List.map_reverse]; exact hG, B⟩
end Go.Proofs.YtccbgdbipihoaaaGreat.K
namespace Go.Proofs.YtccbgdbipihoaaaGreat.K
open Go.RowKit Q Q.D

set_option maxRecDepth 8000 in
set_option maxHeartbeats 2000000 in
theorem same_any (a1 : Option Addr) (c1 : Nat) (a2 : Option Addr) (c2 : Nat) (l : List ByteArray) (w : World) (h1 : LAt 1 TextR w a1 c1 l) (h2 : LAt 1 TextR w a2 c2 l) :
    Calls Tryz.prog 14 #[.slice a1 l.length c1, .slice a2 l.length c2] w fun e w' => e = .returned (.bool true) ∧ Below w.heap.size w w' := by
  have hbig := h1.big
  go_enter Tryz.func14, Tryz.ntmps14
  go_wp2
  go_loopw [5] (fun iv wr => ∃ i : Nat, iv = .int .i64 (i : Int) ∧ i ≤ l.length ∧ Below w.heap.size w wr) (fun iv _ => l.length - (intOf iv).toNat)
  case atStart => exact ⟨0, rfl, Nat.zero_le _, Below.refl _ _⟩
  case round =>
    obtain ⟨i, rfl, hi, hB⟩ := hrel
    by_cases hlt : i < l.length
    · have hlt' : (i : Int) < (l.length : Int) := by omega
      obtain ⟨_, _, r1, g1, k1⟩ := h1.below hB (fun _ _ h => h)
      obtain ⟨_, _, r2, g2, k2⟩ := h2.below hB (fun _ _ h => h)
      obtain ⟨b1, o1, rfl, _, d1⟩ := g1 (by omega)
      obtain ⟨b2, o2, rfl, _, d2⟩ := g2 (by omega)
      obtain ⟨x, hx⟩ : ∃ x, l[i]? = some x := ⟨_, List.getElem?_eq_getElem hlt⟩
      have e1 := d1 i hlt 0 (.string x) (by rw [(k1 i x hx).1]; rfl)
      have e2 := d2 i hlt 0 (.string x) (by rw [(k2 i x hx).1]; rfl)
      simp only [Nat.mul_one, Nat.add_zero] at e1 e2
      clear d1 d2 g1 g2 k1 k2
      go_wp2_with fail
      go_region
      all_goals go_wp2
      all_goals go_roundw
      all_goals first
        | exact ⟨i + 1, by go_num, by omega, hB.drew⟩
        | (simp [intOf]; omega)
    · have hlt' : ¬ (i : Int) < (l.length : Int) := by omega
      go_wp2
      go_ret
      exact ⟨rfl, hB⟩
end Go.Proofs.YtccbgdbipihoaaaGreat.K
namespace Go.Proofs.YtccbgdbipihoaaaGreat.K
open Go.RowKit Go.Shelf Q Q.D
attribute [local go_sem] Oper.semAt_some



end Go.Proofs.YtccbgdbipihoaaaGreat.K
namespace Go.Proofs.YtccbgdbipihoaaaGreat.K
open Go.RowKit Q Q.D

theorem texts_flat (l : List ByteArray) : l.map Value.string = flatR (fun j => [.string (l.getD j ⟨#[]⟩)]) l.length := by
  refine List.ext_getElem? (fun y => ?_)
  have hk : ∀ j, j < l.length → ((fun j => [Value.string (l.getD j ⟨#[]⟩)]) j).length = 1 := fun j _ => rfl
  by_cases hy : y < l.length
  · have := flatR_at hk y hy 0 (by omega)
    rw [Nat.mul_one, Nat.add_zero] at this
    rw [this, List.getD_eq_getElem?_getD]
    simp [hy]
  · rw [List.getElem?_eq_none (by simp; omega), List.getElem?_eq_none (by rw [flatR_len hk]; omega)]
theorem KStep.below {n0 : Nat} {W W' : World} {pk mb : Nat} {v : Value} {R : List Mem} (h : KinO n0 W pk mb v R) (st : KStep pk mb v W W') : Below n0 W W' :=
  ⟨st.os, st.tape, st.output, st.size, fun b hb => st.block b (by have := h.hpk; have := h.box.lt; omega) (by have := h.hpk; omega) (by have := h.hmb; omega) (fun e => by have := (h.own.lt b e).1; omega)⟩
theorem small_of_k {R : List Mem} {l : List KD} (h : R.map Mem.k = l) (hs : ∀ k ∈ l, KSm k) : ∀ m ∈ R, KSm m.k := fun m hm => hs _ (by rw [← h]; exact List.mem_map_of_mem hm)

end Go.Proofs.YtccbgdbipihoaaaGreat.K
namespace Go.Proofs.YtccbgdbipihoaaaGreat.K
open Go.RowKit Q Q.D

def Maked (w : World) (r : Array Value) : Prop := ∃ b nm sup fs pool ms, M.CLies w b r nm sup fs pool ms ∧ nm.size ≤ 1000 ∧ sup.size ≤ 1000 ∧ (∀ f ∈ fs, f.1.size ≤ 1000 ∧ f.2.1.size ≤ 1000) ∧ fs.length ≤ 1000
def old (n0 : Nat) (b : Nat) : Bool := decide (b < n0)
def Asked (n0 : Nat) (w : World) (r : Array Value) : Prop := r.size = 5 ∧ (∀ u ∈ r.toList, u.oneCell' = true) ∧ ((∃ k, ClassV (seen (old n0) w) (.agg r) k) ∨ Maked w r)
theorem clies_cells {w : World} {b : Nat} {r : Array Value} {nm sup : ByteArray} {fs : List (ByteArray × ByteArray × Bool)} {pool : List M.CD} {ms : List (M.BK × M.SG)} (h : M.CLies w b r nm sup fs pool ms) : r.size = 5 ∧ ∀ u ∈ r.toList, u.oneCell' = true := by
  obtain ⟨vp, vf, vm, rfl, ⟨h1, _⟩, h2, rows, _, h4, _⟩ := h
  obtain ⟨_, _, rfl⟩ := M.own_slice h1
  obtain ⟨_, _, rfl⟩ := M.own_slice h4
  have hf : ∃ a n c, vf = .slice a n c := by
    rcases h2 with ⟨_, rfl⟩ | ⟨g, rfl, _⟩
    · exact ⟨_, _, _, rfl⟩
    · exact ⟨_, _, _, rfl⟩
  obtain ⟨_, _, _, rfl⟩ := hf
  refine ⟨rfl, fun u hu => ?_⟩
  simp at hu
  rcases hu with rfl | rfl | rfl | rfl | rfl <;> rfl
end Go.Proofs.YtccbgdbipihoaaaGreat.K
namespace Go.Proofs.YtccbgdbipihoaaaGreat.K
open Go.RowKit Q Q.D

end Go.Proofs.YtccbgdbipihoaaaGreat.K
namespace Go.Proofs.YtccbgdbipihoaaaGreat.K
open Go.RowKit Q Q.D

theorem tk {P : Program} {md : Region.Mode} {ops : Array Oper} {Q : Exit → Act → World → Prop} {S : World → Prop} (i : Nat) (oi : Oper) (v : Value) {fuel : Nat} {listed : Array Bool} {a : Act} {w : World} (hi : ops[i]? = some oi) (hQ : ∀ c a w, Q (.panic c) (a.put oi.dst v) w → Q (.panic c) a w) (hy : YieldsIf P ops S oi v a) (hS : S w)
    (h : wpAnyH P md ops Q S fuel (listed.setIfInBounds i true) (a.put oi.dst v) w) (hs : Region.noSelect ops = true := by kernel_rfl) (hf : Region.free md ops listed i = true := by kernel_rfl) (hr : (Region.ready md ops listed).contains i = true := by kernel_rfl) :
    wpAnyH P md ops Q S (fuel + 1) listed a w := wpAnyH_take hi hs hf hr hQ hy hS h
theorem seen_heap {X : Nat → Bool} {w : World} {g : Nat} (h : X g = true) : (seen X w).heap[g]? = w.heap[g]? := by
  unfold seen
  simp only [Array.getElem?_mapIdx]
  cases w.heap[g]? with
  | none => rfl
  | some o => simp [h]
theorem seen_same {X : Nat → Bool} {w : World} {T : TypeId} (h : ∀ g cur, w.heap[g]? = some (.cells cur T (0, 0)) → X g = true) : M.Same T w (seen X w) := fun g cur hg => by rw [seen_heap (h g cur hg)]; exact hg
theorem fr_seen {X : Nat → Bool} {w : World} {pl : Bool} {y : M.FM} {z : Int × Bool} (h : M.FR1 pl w y z) (hs : ∀ (g : Nat) (cur : Array Value), w.heap[g]? = some (.cells cur 9 (0, 0)) → cur[0]? ≠ some (.string objectN) → X g = true) : M.FR1 pl (seen X w) y z := by
  obtain ⟨z1, z2⟩ := z
  obtain ⟨h1, ⟨g, h2, h3⟩, h4⟩ := h
  refine ⟨h1, ⟨g, h2, by rw [seen_heap (hs g _ h3 (by cases pl <;> exact fun e => absurd (Value.string.inj (Option.some.inj e)) (by decide)))]; exact h3⟩, ?_⟩
  cases z2
  · exact h4
  · obtain ⟨g, h5, h6⟩ := h4
    exact ⟨g, h5, by rw [seen_heap (hs g _ h6 (fun e => absurd (Value.string.inj (Option.some.inj e)) (by decide)))]; exact h6⟩
theorem clies_seen {X : Nat → Bool} {w : World} {b : Nat} {r : Array Value} {nm sup : ByteArray} {fs : List (ByteArray × ByteArray × Bool)} {pool : List M.CD} {ms : List (M.BK × M.SG)} (h : M.CLies w b r nm sup fs pool ms) (hT : ∀ T, T ≠ 9 → T ≠ 84 → M.Same T w (seen X w))
    (hs : ∀ (g : Nat) (cur : Array Value), w.heap[g]? = some (.cells cur 9 (0, 0)) → cur[0]? ≠ some (.string objectN) → X g = true) : M.CLies (seen X w) b r nm sup fs pool ms := by
  obtain ⟨vp, vf, vm, e, ⟨h1, h1'⟩, h2, rows, h3, h4, h5⟩ := h
  refine ⟨vp, vf, vm, e, ⟨M.own_same h1 (hT _ (by decide) (by decide)), h1'⟩, ?_, rows, h3, M.own_same h4 (hT _ (by decide) (by decide)), fun j m r hm hr => ?_⟩
  · rcases h2 with h2 | ⟨g, e, hg⟩
    · exact .inl h2
    · exact .inr ⟨g, e, hT _ (by decide) (by decide) _ _ hg⟩
  · obtain ⟨vc, vh, vf, fs, e, k1, k2, k3, k4⟩ := h5 j m r hm hr
    exact ⟨vc, vh, vf, fs, e, M.own_same k1 (hT _ (by decide) (by decide)), M.own_same k2 (hT _ (by decide) (by decide)), M.own_same k3 (hT _ (by decide) (by decide)), k4.1, fun j y z hy hz => fr_seen (k4.2 j y z hy hz) hs⟩
def offX (pk mb : Nat) (v : Value) (n : Nat) (b : Nat) : Bool := offK pk mb v b && decide (b < n)
theorem offX_iff {pk mb n : Nat} {v : Value} {b : Nat} : offX pk mb v n b = true ↔ (b ≠ pk ∧ b ≠ mb ∧ v.ownBlock ≠ some b) ∧ b < n := by unfold offX; rw [Bool.and_eq_true, offK_iff, decide_eq_true_eq]
theorem names_first {n0 : Nat} {w : World} {pk mb : Nat} {v : Value} {R : List Mem} (h : KinO n0 w pk mb v R) {R' : List KD} (hR : R.reverse.map Mem.k = objectK :: R') {g : Nat} (hg : v.ownBlock = some g) : ∃ cur, w.heap[g]? = some (.cells cur 9 (0, 0)) ∧ cur[0]? = some (.string objectN) := by
  have hl : 0 < R.length := by
    have := congrArg List.length hR
    simp at this
    omega
  rcases h.own.2 with ⟨rfl, _⟩ | ⟨g', cap, cur, rfl, _, hc, h1, h2, h3, h4⟩
  · simp [Value.ownBlock] at hg
  · simp [Value.ownBlock] at hg
    subst hg
    refine ⟨cur, hc, ?_⟩
    have e : (nameCells R)[0]? = some (.string objectN) := by
      have : nameCells R = (R.reverse.map Mem.k).map (fun k => .string k.nm) := by simp [nameCells]
      rw [this, hR]
      rfl
    rw [← h4, List.getElem?_take, if_pos (by omega), Array.getElem?_toList] at e
    exact e
theorem asked_view {n0 : Nat} {w : World} {pk mb : Nat} {v : Value} {R : List Mem} (h : KinO n0 w pk mb v R) {R' : List KD} (hR : R.reverse.map Mem.k = objectK :: R') {r : Array Value} (ha : Asked n0 w r) : ∃ k, ClassV (seen (offX pk mb v w.heap.size) w) (.agg r) k := by
  obtain ⟨_, _, ⟨k, hk⟩ | ⟨b, nm, sup, fs, pool, ms, hc, a1, a2, a3, a4⟩⟩ := ha
  · refine ⟨k, ClassV.ext (seen_mono (Nat.le_refl _) (fun b hb hx => ⟨offX_iff.2 ⟨⟨?_, ?_, ?_⟩, hb⟩, rfl⟩)) hk⟩
    · have := h.hpk; simp [old] at hx; omega
    · have := h.hmb; simp [old] at hx; omega
    · intro e; have := (h.own.lt b e).1; simp [old] at hx; omega
  · refine ⟨_, M.class_view (clies_seen hc (fun T h1 h2 => seen_same (fun g cur hg => offX_iff.2 ⟨⟨?_, ?_, ?_⟩, (Array.getElem?_eq_some_iff.1 hg).1⟩)) (fun g cur hg hne => offX_iff.2 ⟨⟨?_, ?_, ?_⟩, (Array.getElem?_eq_some_iff.1 hg).1⟩)) a1 a2 a3 a4⟩
    · rintro rfl
      have hb : _ = _ := h.box
      rw [hb] at hg
      cases hg
      exact h2 rfl
    · rintro rfl
      obtain ⟨es, n, hm, _⟩ := h.map
      rw [hm] at hg
      cases hg
    · intro e
      obtain ⟨cur', hc', _⟩ := names_first h hR e
      rw [hc'] at hg
      cases hg
      exact h1 rfl
    · rintro rfl
      have hb : _ = _ := h.box
      rw [hb] at hg
      cases hg
    · rintro rfl
      obtain ⟨es, n, hm, _⟩ := h.map
      rw [hm] at hg
      cases hg
    · intro e
      obtain ⟨cur', hc', h0⟩ := names_first h hR e
      rw [hc'] at hg
      cases hg
      exact hne h0
theorem nv_up {B B' : Nat} {w w' : World} {v : Value} {l : List Int} (h : M.NV B B w v l) (hb : Below B w w') (hB : B ≤ B') : M.NV B' B' w' v l := by
  obtain ⟨ao, cap, e, hc, hm, hx, hl⟩ := h
  refine ⟨ao, cap, e, hc, hm, hx, ?_⟩
  rcases hl with h | ⟨g, off, e, hg, hp, hl⟩
  · exact .inl h
  · exact .inr ⟨g, off, e, by omega, by omega, fun j x hj => (World.cell?_of_block (a := ⟨g, off + j, none⟩) (hb.block g hg)).trans (hl j x hj)⟩
theorem step_same_k {n0 : Nat} {w w' : World} {pk mb : Nat} {v : Value} {R : List Mem} (h : KinO n0 w pk mb v R) (st : KStep pk mb v w w') {T : TypeId} (h1 : T ≠ 9) (h2 : T ≠ 84) : M.Same T w w' := fun g cur hg => by
  rw [st.block g (Array.getElem?_eq_some_iff.1 hg).1 ?_ ?_ ?_]
  · exact hg
  · rintro rfl
    have hb : _ = _ := h.box
    rw [hb] at hg
    cases hg
    exact h2 rfl
  · rintro rfl
    obtain ⟨es, n, hm, _⟩ := h.map
    rw [hm] at hg
    cases hg
  · intro e
    rcases h.own.2 with ⟨rfl, _⟩ | ⟨g', cap, cur', rfl, _, hc, _⟩
    · simp [Value.ownBlock] at e
    · simp [Value.ownBlock] at e
      subst e
      rw [hc] at hg
      cases hg
      exact h1 rfl
def Cells3 (gn gl i last : Nat) (s z : ByteArray) (W : World) : Prop := W.cell? ⟨gn, i, none⟩ = some (.string s) ∧ W.cell? ⟨gl, 0, none⟩ = some (.string s) ∧ W.cell? ⟨gl, last, none⟩ = some (.string z)
theorem Cells3.below {gn gl i last : Nat} {s z : ByteArray} {W W' : World} (h : Cells3 gn gl i last s z W) (b : Below W.heap.size W W') : Cells3 gn gl i last s z W' := ⟨(b.cell (M.cell_lt h.1)).trans h.1, (b.cell (M.cell_lt h.2.1)).trans h.2.1, (b.cell (M.cell_lt h.2.2)).trans h.2.2⟩
def Cells4 (gn gl gc i j j2 : Nat) (s x y p : ByteArray) (W : World) : Prop := W.cell? ⟨gn, i, none⟩ = some (.string s) ∧ W.cell? ⟨gl, j, none⟩ = some (.string x) ∧ W.cell? ⟨gc, 1, none⟩ = some (.string p) ∧ W.cell? ⟨gl, j2, none⟩ = some (.string y)
theorem Cells4.below {gn gl gc i j j2 : Nat} {s x y p : ByteArray} {W W' : World} (h : Cells4 gn gl gc i j j2 s x y p W) (b : Below W.heap.size W W') : Cells4 gn gl gc i j j2 s x y p W' := ⟨(b.cell (M.cell_lt h.1)).trans h.1, (b.cell (M.cell_lt h.2.1)).trans h.2.1, (b.cell (M.cell_lt h.2.2.1)).trans h.2.2.1, (b.cell (M.cell_lt h.2.2.2)).trans h.2.2.2⟩
theorem ext_off {X : Nat → Bool} {wm wr : World} (hs : wm.heap.size ≤ wr.heap.size) (h : ∀ b, X b = true → wr.heap[b]? = wm.heap[b]?) : Ext (seen X wm) wr := ⟨by rw [seen_size]; exact hs, fun p v e => by
  have := seen_cell.1 e
  exact (World.cell?_of_block (h _ this.1)).trans this.2⟩
def OrderI (n0 pk mb : Nat) (v : Value) (w wm : World) (aoa : Option Addr) (capa : Nat) (rows : List (Array Value)) (vv : Value) (RR : List Mem) (wr : World) : Prop :=
  KinO n0 wr pk mb vv RR ∧ KWf (RR.map Mem.k) ∧ (∀ m ∈ RR, KSm m.k) ∧ RR.length ≤ 32 ∧ (wm.heap.size ≤ wr.heap.size ∧ ∀ b, offX pk mb v wm.heap.size b = true → wr.heap[b]? = wm.heap[b]?) ∧ (∀ g, vv.ownBlock = some g → offX pk mb v wm.heap.size g = false) ∧ wr.ownsRow wm.heap.size 43 5 (.slice aoa rows.length capa) rows.length (rows.flatMap Array.toList) ∧ Below n0 w wr
theorem OrderI.below {n0 pk mb : Nat} {v : Value} {w wm : World} {aoa : Option Addr} {capa : Nat} {rows : List (Array Value)} {vv : Value} {RR : List Mem} {wr w' : World} (h : OrderI n0 pk mb v w wm aoa capa rows vv RR wr) (hb : Below wr.heap.size wr w') (hn : n0 ≤ wr.heap.size) : OrderI n0 pk mb v w wm aoa capa rows vv RR w' := by
  obtain ⟨h1, h2, h3, h4, ⟨h5, h5'⟩, h6, h7, h8⟩ := h
  exact ⟨h1.below hb, h2, h3, h4, ⟨Nat.le_trans h5 hb.size, fun b hx => (hb.block b (by have := (offX_iff.1 hx).2; omega)).trans (h5' b hx)⟩, h6, M.own_same h7 (M.Same.of_below hb), h8.trans (hb.mono hn)⟩
theorem OrderI.add {n0 pk mb : Nat} {v : Value} {w wm : World} {aoa : Option Addr} {capa : Nat} {rows : List (Array Value)} {vv v' : Value} {RR : List Mem} {wr w' : World} {k : KD} {b : Nat} (h : OrderI n0 pk mb v w wm aoa capa rows vv RR wr) (hz : refZ RR k = 0) (hK : KinO n0 w' pk mb v' (⟨k, b⟩ :: RR)) (st : KStep pk mb vv wr w') (hown : ∀ g, v'.ownBlock = some g → vv.ownBlock = some g ∨ wr.heap.size ≤ g) : OrderI n0 pk mb v w wm aoa capa rows v' (⟨k, b⟩ :: RR) w' := by
  obtain ⟨h1, h2, h3, h4, ⟨h5, h5'⟩, h6, h7, h8⟩ := h
  have hz' := hz
  rw [refZ_k] at hz'
  refine ⟨hK, h2.add hz', fun m hm => ?_, by have := (kref_ok hz').2.1; simp at this ⊢; omega, ⟨Nat.le_trans h5 st.size, fun b' hx => ?_⟩, fun g hg => ?_, M.own_same h7 (step_same_k h1 st (by decide) (by decide)), h8.trans (KStep.below h1 st)⟩
  · rcases List.mem_cons.1 hm with rfl | hm
    · exact small_of_right (refZ_zero hz).1
    · exact h3 m hm
  · have hx' := offX_iff.1 hx
    rw [st.block b' (by omega) hx'.1.1 hx'.1.2.1 (fun e => by have := h6 b' e; rw [hx] at this; cases this)]
    exact h5' b' hx
  · rcases hown g hg with e | e
    · exact h6 g e
    · rw [Bool.eq_false_iff]
      intro hx
      have := (offX_iff.1 hx).2
      omega
end Go.Proofs.YtccbgdbipihoaaaGreat.K
