/- New. -/
import Derived.Test.YtknppdpcgdncdaaKX
namespace Go.Proofs.Ytknppdpcgdncdaa.K
open Go.RowKit Go.ChangeMaps Q Q.D

/-- Members for the first i given classes, the newest first. -/
def GivenR (R : List Mem) (i : Nat) : Prop := R.reverse.map Mem.k = givenK.take i

theorem mfind_not {R : List Mem} {s : ByteArray} (h : ∀ m ∈ R, (s == m.k.nm) = false) : mfind R s = none := by
  induction R with
  | nil => rfl
  | cons m o ih =>
    unfold mfind
    rw [h m (by simp)]
    exact ih (fun x hx => h x (by simp [hx]))
theorem given_apart : givenK.Pairwise (fun a b => (b.nm == a.nm) = false) := by decide

set_option maxRecDepth 8000 in
set_option maxHeartbeats 4000000 in
theorem new_any (w : World) : Calls Try.prog 6 #[] w fun e w' => ∃ pk mb v R, e = .returned (.pointer (some ⟨pk, 0, none⟩)) ∧ KinO w.heap.size w' pk mb v R ∧ R.reverse.map Mem.k = givenK ∧ Below w.heap.size w w' := by
  have hmm := @run_makeMap Try.prog
  go_enter Try.func6, Try.ntmps6
  go_wp2_with fail
  have K2 : KinO w.heap.size ((w.alloc (.map #[] 0)).alloc (.cells #[.slice none 0 0, .map (some w.heap.size)] 56)) (w.heap.size + 1) w.heap.size (.slice none 0 0) [] := by
    have hb := Blk.new (w.alloc (.map #[] 0)) #[.slice none 0 0, .map (some w.heap.size)] 56
    rw [World.size_alloc] at hb
    exact ⟨by omega, Nat.le_refl _, hb, World.ownsRow_nil _ _ _ _, ⟨#[], 0, (Below.heap_alloc _ _ _ (by simp)).trans (World.alloc_heap_new w _), rfl⟩, trivial⟩
  have B2 : Below w.heap.size w ((w.alloc (.map #[] 0)).alloc (.cells #[.slice none 0 0, .map (some w.heap.size)] 56)) := ((Below.refl _ w).alloc (Nat.le_refl _) _).alloc (by simp) _
  have hs2 : w.heap.size + 1 < ((w.alloc (.map #[] 0)).alloc (.cells #[.slice none 0 0, .map (some w.heap.size)] 56)).heap.size := by simp
  generalize (w.alloc (.map #[] 0)).alloc (.cells #[.slice none 0 0, .map (some w.heap.size)] 56) = W2 at *
  refine (given_any W2).mono ?_
  rintro e w3 ⟨v, rows, rfl, I⟩
  obtain ⟨gv, cv, rfl⟩ := own_form I.o (by decide)
  rw [show givenK.length = 13 from rfl] at *
  have hgv := I.o.lt gv rfl
  have hs3 := I.B.size
  clear hmm
  go_wp2_with fail
  go_loopw [9] (fun iv wr => ∃ (i : Nat) (vn : Value) (R : List Mem), iv = .int .i64 (i : Int) ∧ i ≤ 13 ∧ KinO w.heap.size wr (w.heap.size + 1) w.heap.size vn R ∧ GivenR R i ∧ Below w.heap.size w wr ∧ (w3.heap.size ≤ wr.heap.size ∧ ∀ b, W2.heap.size ≤ b → b < w3.heap.size → wr.heap[b]? = w3.heap[b]?) ∧ ∀ g, vn.ownBlock = some g → w3.heap.size ≤ g) (fun iv _ => 13 - (intOf iv).toNat)
  case atStart => exact ⟨0, _, [], rfl, by omega, K2.below I.B, rfl, next B2 I.B, ⟨Nat.le_refl _, fun _ _ _ => rfl⟩, fun g hg => by simp [Value.ownBlock] at hg⟩
  case round =>
    obtain ⟨i, vn, R, rfl, hi, KO, hG, B, ⟨hsz, hbl⟩, hvn⟩ := hrel
    clear K2
    by_cases hlt : i < 13
    · have hlt' : (i : Int) < 13 := by omega
      obtain ⟨k, hk⟩ : ∃ k, givenK[i]? = some k := ⟨_, List.getElem?_eq_getElem (show i < givenK.length from hlt)⟩
      have hC := I.r i k hk
      have hC' := hC
      obtain ⟨o1, c1, o2, c2, o3, c3, hr, -⟩ := hC'
      simp only [Value.agg.injEq] at hr
      have hrow : rows i = [.string k.nm, .string k.sup, .slice o1 k.pool.length c1, .slice o2 k.fs.length c2, .slice o3 k.ms.length c3] := by
        have := congrArg Array.toList hr
        simpa using this
      have hcell : ∀ t, t < 5 → wr.cell? ⟨gv, i * 5 + t, none⟩ = (rows i)[t]? := fun t ht => by
        have h1 := I.o.cellAt (i * 5 + t) (by omega)
        rw [flatR_at I.k i hlt t ht] at h1
        rw [← h1]
        unfold World.cell?
        rw [hbl gv hgv.1 hgv.2]
      have d0 : wr.cell? ⟨gv, i * 5, none⟩ = some (.string k.nm) := (hcell 0 (by omega)).trans (by rw [hrow]; rfl)
      have d1 : wr.cell? ⟨gv, i * 5 + 1, none⟩ = some (.string k.sup) := (hcell 1 (by omega)).trans (by rw [hrow]; rfl)
      have d2 : wr.cell? ⟨gv, i * 5 + 2, none⟩ = some (.slice o1 k.pool.length c1) := (hcell 2 (by omega)).trans (by rw [hrow]; rfl)
      have d3 : wr.cell? ⟨gv, i * 5 + 3, none⟩ = some (.slice o2 k.fs.length c2) := (hcell 3 (by omega)).trans (by rw [hrow]; rfl)
      have d4 : wr.cell? ⟨gv, i * 5 + 4, none⟩ = some (.slice o3 k.ms.length c3) := (hcell 4 (by omega)).trans (by rw [hrow]; rfl)
      have hnew : mfind R k.nm = none := mfind_not (fun m hm => by
        have h1 : m.k ∈ givenK.take i := by rw [← hG]; simp; exact ⟨m, hm, rfl⟩
        obtain ⟨j, hj⟩ := List.getElem?_of_mem h1
        rw [List.getElem?_take] at hj
        split at hj
        · rename_i hji
          have := List.pairwise_iff_getElem.1 given_apart j i (List.getElem?_eq_some_iff.1 hj).1 (List.getElem?_eq_some_iff.1 hk).1 hji
          rw [(List.getElem?_eq_some_iff.1 hj).2, (List.getElem?_eq_some_iff.1 hk).2] at this
          exact this
        · cases hj)
      have hRl : R.length = i := by
        have := congrArg List.length hG
        simp [show givenK.length = 13 from rfl] at this
        omega
      have KO4 := KO.below (balloc wr (.cells #[.string k.nm, .string k.sup, .slice o1 k.pool.length c1, .slice o2 k.fs.length c2, .slice o3 k.ms.length c3] 34))
      have hE : Ext (seen (newBut W2.heap.size (.slice (some ⟨gv, 0, none⟩) 13 cv)) w3) (seen (offK (w.heap.size + 1) w.heap.size vn) (wr.alloc (.cells #[.string k.nm, .string k.sup, .slice o1 k.pool.length c1, .slice o2 k.fs.length c2, .slice o3 k.ms.length c3] 34))) := seen_mono (by simp; omega) (fun b hb hx => by
        simp only [newBut, Bool.and_eq_true, decide_eq_true_eq] at hx
        refine ⟨offK_iff.2 ⟨by omega, by omega, fun e => by have := hvn b e; omega⟩, ?_⟩
        rw [(balloc wr _).block b (by omega), hbl b hx.1 hb])
      rw [hrow] at hC
      have hP := D.hidIt (put_core _ _ _ _ _ R KO4 k _ (ClassV.ext hE hC) hnew (by omega))
      have B4 := B.alloc (Nat.le_of_lt (Nat.lt_of_lt_of_le (show w.heap.size < W2.heap.size by omega) (by omega))) (.cells #[.string k.nm, .string k.sup, .slice o1 k.pool.length c1, .slice o2 k.fs.length c2, .slice o3 k.ms.length c3] 34)
      clear hcell hC hr hRl
      go_wp2_with fail
      refine hP.out.mono ?_
      rintro e w5 ⟨⟨u, rfl⟩, v5, b5, K5, st5, hv5⟩
      have hs5 := st5.size
      simp only [World.size_alloc] at hs5
      have G5 : GivenR (⟨k, b5⟩ :: R) (i + 1) := by
        unfold GivenR at hG ⊢
        rw [List.reverse_cons, List.map_append, hG, List.take_add_one, hk]; rfl
      have B5 : Below w.heap.size w w5 := ⟨st5.os.trans B4.os, st5.tape.trans B4.tape, st5.output.trans B4.output, Nat.le_trans B4.size st5.size, fun b hb => by
        rw [st5.block b (by have := B4.size; simp only [World.size_alloc] at this ⊢; omega) (by omega) (by omega) (fun e => by have := hvn b e; omega), B4.block b hb]⟩
      have hbl5 : ∀ b, W2.heap.size ≤ b → b < w3.heap.size → w5.heap[b]? = w3.heap[b]? := fun b h1 h2 => by
        rw [st5.block b (by simp; omega) (by omega) (by omega) (fun e => by have := hvn b e; omega), (balloc wr _).block b (by omega), hbl b h1 h2]
      have hv6 : ∀ g, v5.ownBlock = some g → w3.heap.size ≤ g := fun g hg => by
        rcases hv5 g hg with h | h
        · exact hvn g h
        · simp only [World.size_alloc] at h; omega
      go_wp2
      go_roundw
      case rel => exact ⟨i + 1, v5, _, by go_num, by omega, K5, G5, B5, ⟨by omega, hbl5⟩, hv6⟩
      case measure => simp [intOf]; omega
    · have hlt' : ¬ (i : Int) < 13 := by omega
      have : i = 13 := by omega
      subst this
      go_wp2
      go_ret
      exact ⟨_, rfl, _, _, _, KO, by rw [← List.map_reverse]; exact hG, B⟩
end Go.Proofs.Ytknppdpcgdncdaa.K
