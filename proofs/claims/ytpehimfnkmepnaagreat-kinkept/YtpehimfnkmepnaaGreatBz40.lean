import Derived.Test.YtpehimfnkmepnaaGreatBz39
set_option maxRecDepth 8000
set_option maxHeartbeats 40000000
namespace Go.Proofs.YtpehimfnkmepnaaGreat.M
open Go.RowKit
theorem zL4 (ts : List Int) : ∀ (ls : List LN) (p : Nat) (fs : List (Int × Bool)), (∀ z ∈ fs, 0 ≤ z.1 ∧ z.1 ≤ 1000) → p + szs ls ≤ 1000 → ∀ z ∈ fra ts ls (p : Int) fs, 0 ≤ z.1 ∧ z.1 ≤ 1000
 | [], _, _, h, _ => h
 | x :: r, p, fs, h, hp => by
   rw [zJ9]
   simp only [szs] at hp
   by_cases hx : 0 ≤ x.hr
   · rw [if_pos hx] at hp ⊢
     refine zL4 ts r p _ ?_ (by omega)
     split
     · exact h
     · intro z hz
       rcases List.mem_append.1 hz with hz | hz
       · exact h z hz
       · simp at hz
         subst hz
         exact ⟨by simp, by simp; omega⟩
   · rw [if_neg hx] at hp ⊢
     have := zL4 ts r (p + sz x.op) fs h (by omega)
     rwa [Int.natCast_add] at this
theorem zKg (ts : List Int) : ∀ (ls : List LN) (p : Int) (fs : List (Int × Bool)), (fra ts ls p fs).length ≤ fs.length + (ls.filter (fun x => decide (0 ≤ x.hr))).length
 | [], _, fs => by simp [fra]
 | x :: r, p, fs => by
   rw [zJ9]
   by_cases hx : 0 ≤ x.hr
   · rw [if_pos hx]
     have := zKg ts r p (if (fs[fs.length - 1]?).map (·.1) = some p then fs else fs ++ [(p, isIn ts x.hr)])
     have h2 : (if (fs[fs.length - 1]?).map (·.1) = some p then fs else fs ++ [(p, isIn ts x.hr)]).length ≤ fs.length + 1 := by
      split <;> simp
     simp only [List.filter_cons, decide_eq_true_eq, if_pos hx, List.length_cons]
     omega
   · rw [if_neg hx]
     have := zKg ts r (p + (sz x.op : Nat)) fs
     simp only [List.filter_cons, decide_eq_true_eq, if_neg hx]
     exact this
theorem zKh : ∀ pl : Bool, ∀ s ∈ zHr pl, Q.zEx s = true := by decide +kernel
theorem zPn : Q.zEx thrT = true := by decide +kernel
theorem zPe {k : BK} {pool : List CD} {σ : SG} (h : zBm k pool σ) (hp : pool.length ≤ 256) (ahead : List Q.MD) (ha : ∀ g ∈ ahead, Q.zIq (mdOf k σ) g = false) : Q.zFr (mdOf k σ) ahead = 0 := by
 have hm := zBt h hp
 have hs := zJ5 hm
 have hh := zN5 h hp
 obtain ⟨b, hb⟩ := zG1 (zCo σ) (fun i => zCi (by omega) i) σ.ls 0 [] (fun x hx => (hm.good.ls x hx).1) rfl (by omega)
 have hb' : encL (zBw σ) [] = (b, 0) := hb
 have hcl := (zJ2 _ _ _ hb').1
 have hfl : (zDi σ).length ≤ 54 := by
  have h1 := zKg σ.ts σ.ls 0 []
  have h2 := hm.her
  have h3 := hm.lab
  unfold SG.heres at h2
  unfold zDi
  simp only [List.length_nil] at h1
  omega
 have hfa : ∀ z ∈ zDi σ, 0 ≤ z.1 ∧ z.1 ≤ 1000 := zL4 σ.ts σ.ls 0 [] (by simp) (by omega)
 refine (KK.meth_zero _ _ rfl).2 ⟨⟨?_, ?_⟩, ha, ?_⟩
 · show Q.D.zB9 (Q.bsB k.nm) = true
   cases k <;> decide +kernel
 · show Q.zBj k.ds = true
   cases k <;> decide +kernel
 · have hkl : ((zB5 k.pl).length : Int) ≤ 16 := by cases k <;> decide
   refine ⟨by show (0 : Int) ≤ 16; decide, by show (16 : Int) ≤ 16; decide, by show (0 : Int) ≤ ((zB5 k.pl).length : Nat); omega, hkl, ?_, ?_, ?_, ?_, ?_, ?_⟩
   · show (encL (zBw σ) []).1.length ≤ 1024
     rw [hb']; exact hcl
   · show ((zDf σ).map hdOf).length ≤ 64
     rw [List.length_map]; omega
   · show ((zDi σ).map (rdOf k.pl)).length ≤ 64
     rw [List.length_map]; omega
   · intro x hx
     obtain ⟨y, hy, rfl⟩ := List.mem_map.1 hx
     unfold zDf at hy
     obtain ⟨t, _, rfl⟩ := List.mem_map.1 hy
     have a1 := zCi (σ := σ) (by omega) t.f.toNat
     have a2 := zCi (σ := σ) (by omega) t.t.toNat
     have a3 := zCi (σ := σ) (by omega) t.a.toNat
     have hn : Q.D.zB9 (Q.bsB ⟨#[84, 104, 114, 111, 119, 97, 98, 108, 101]⟩) = true := by decide +kernel
     unfold Q.zI0
     simp only [Bool.and_eq_true, KK.inB_iff]
     refine ⟨⟨?_, ?_⟩, ⟨?_, ?_⟩, ⟨?_, ?_⟩, hn⟩
     · exact a1.1
     · exact Int.le_trans a1.2 (by decide)
     · exact a2.1
     · exact Int.le_trans a2.2 (by decide)
     · exact a3.1
     · exact Int.le_trans a3.2 (by decide)
   · intro x hx
     obtain ⟨z, hz, rfl⟩ := List.mem_map.1 hx
     have a := hfa z hz
     unfold Q.zGy
     rw [KK.inB_iff]
     exact ⟨a.1, Int.le_trans a.2 (by decide)⟩
   · intro x hx
     obtain ⟨z, hz, rfl⟩ := List.mem_map.1 hx
     refine ⟨?_, ?_, fun s hs => ?_⟩
     · show (zHr k.pl).length ≤ 16
       cases k <;> decide
     · show (if z.2 then [thrT] else []).length ≤ 16
       split <;> decide
     · rcases List.mem_append.1 hs with hs | hs
       · exact zKh _ s hs
       · have hs' : s ∈ (if z.2 then [thrT] else []) := hs
         split at hs'
         · simp at hs'; subst hs'; exact zPn
         · simp at hs'
def kdA (σ : SG) : Q.KD := kdOf sA sObj zG3 σ.pool [(.go, σ)]
theorem zKp {σ : SG} (h : zBm .go [] σ) : Q.zD8 (kdA σ) = 0 := by
 have hm := zBt h (by simp)
 have hr := zNc h (by simp)
 unfold Q.zD8
 rw [if_neg (by show ¬ (Q.D.zB9 (Q.bsB sA) && (Q.zCn sObj || Q.D.zB9 (Q.bsB sObj))) = false; decide +kernel), if_neg, if_neg, if_pos (by show Q.zDk [] (zG3.map fdOf) = 0; decide +kernel)]
 · show Q.zE6 [] [mdOf .go σ] = 0
   unfold Q.zE6
   rw [if_pos (zPe h (by simp) [] (by simp))]
   rfl
 · rw [Bool.not_eq_false, List.all_eq_true]
   intro c hc
   obtain ⟨x, hx, rfl⟩ := List.mem_map.1 (show c ∈ σ.pool.map qc from hc)
   rw [← KK.right_same]
   exact hr x hx
 · rw [Bool.not_eq_false]
   have hl : (σ.pool.map qc).length ≤ 256 := by rw [List.length_map]; exact hm.good.pool
   simp only [Bool.and_eq_true, decide_eq_true_eq]
   exact ⟨hl, by show (zG3.map fdOf).length ≤ 16; decide, by show 1 ≤ 16; decide⟩
theorem zR4 {σ : SG} (h : zBm .go [] σ) : K.zMx K.zBh.reverse (kdA σ) = 0 := by
 unfold K.zMx
 rw [if_pos (zKp h), if_neg (by show ¬ (K.zIx K.zBh.reverse sA).isSome = true; decide +kernel), if_neg (by decide +kernel), if_neg (by show ¬ (K.zIx K.zBh.reverse sObj).isNone = true; decide +kernel), if_neg (by show ¬ [mdOf .go σ].any Q.MD.nat = true; simp [mdOf]), if_neg]
 show ¬ [mdOf .go σ].any (K.zE2 (K.klin K.zBh.reverse sObj)) = true
 have e : K.zHc (BK.nm .go) (BK.ds .go) (K.klin K.zBh.reverse sObj) = none := by decide +kernel
 have e2 : K.zE2 (K.klin K.zBh.reverse sObj) (mdOf .go σ) = false := by
  unfold K.zE2
  rw [show (mdOf .go σ).nm = BK.nm .go from rfl, show (mdOf .go σ).ds = BK.ds .go from rfl, e]
 simp [e2]
end Go.Proofs.YtpehimfnkmepnaaGreat.M
namespace Go.Proofs.YtpehimfnkmepnaaGreat.K
open Go.RowKit Go.ChangeMaps Q Q.D
def zNf (R : List Mem) (i : Nat) : Prop := R.reverse.map Mem.k = zBh.take i
theorem zOp {R : List Mem} {s : ByteArray} (h : ∀ m ∈ R, (s == m.k.nm) = false) : zB7 R s = none := by
 induction R with
 | nil => rfl
 | cons m o ih =>
   unfold zB7
   rw [h m (by simp)]
   exact ih (fun x hx => h x (by simp [hx]))
theorem zKv : zBh.Pairwise (fun a b => (b.nm == a.nm) = false) := by decide
theorem zNr (w : World) : Calls Tryz.prog 9 #[] w fun e w' => ∃ pk mb v R, e = .returned (.pointer (some ⟨pk, 0, none⟩)) ∧ KinO w.heap.size w' pk mb v R ∧ R.reverse.map Mem.k = zBh ∧ Below w.heap.size w w' := by
 have hmm := @run_makeMap Tryz.prog
 go_enter Tryz.func9, Tryz.ntmps9
 go_wp2_with fail
 have K2 : KinO w.heap.size ((w.alloc (.map #[] 0)).alloc (.cells #[.slice none 0 0, .map (some w.heap.size)] 99)) (w.heap.size + 1) w.heap.size (.slice none 0 0) [] := by
  have hb := Blk.new (w.alloc (.map #[] 0)) #[.slice none 0 0, .map (some w.heap.size)] 99
  rw [World.size_alloc] at hb
  exact ⟨by omega, Nat.le_refl _, hb, World.ownsRow_nil _ _ _ _, ⟨#[], 0, (Below.heap_alloc _ _ _ (by simp)).trans (World.alloc_heap_new w _), rfl⟩, trivial⟩
 have B2 : Below w.heap.size w ((w.alloc (.map #[] 0)).alloc (.cells #[.slice none 0 0, .map (some w.heap.size)] 99)) := ((Below.refl _ w).alloc (Nat.le_refl _) _).alloc (by simp) _
 have hs2 : w.heap.size + 1 < ((w.alloc (.map #[] 0)).alloc (.cells #[.slice none 0 0, .map (some w.heap.size)] 99)).heap.size := by simp
 generalize (w.alloc (.map #[] 0)).alloc (.cells #[.slice none 0 0, .map (some w.heap.size)] 99) = W2 at *
 refine (zPb W2).mono ?_
 rintro e w3 ⟨v, rows, rfl, I⟩
 obtain ⟨gv, cv, rfl⟩ := zCv I.o (by decide)
 rw [show zBh.length = 13 from rfl] at *
 have hgv := I.o.lt gv rfl
 have hs3 := I.B.size
 clear hmm
 go_wp2_with fail
 go_loopw [9] (fun iv wr => ∃ (i : Nat) (vn : Value) (R : List Mem), iv = .int .i64 (i : Int) ∧ i ≤ 13 ∧ KinO w.heap.size wr (w.heap.size + 1) w.heap.size vn R ∧ zNf R i ∧ Below w.heap.size w wr ∧ (w3.heap.size ≤ wr.heap.size ∧ ∀ b, W2.heap.size ≤ b → b < w3.heap.size → wr.heap[b]? = w3.heap[b]?) ∧ ∀ g, vn.ownBlock = some g → w3.heap.size ≤ g) (fun iv _ => 13 - (intOf iv).toNat)
 case atStart => exact ⟨0, _, [], rfl, by omega, K2.below I.B, rfl, next B2 I.B, ⟨Nat.le_refl _, fun _ _ _ => rfl⟩, fun g hg => by simp [Value.ownBlock] at hg⟩
 case round =>
  obtain ⟨i, vn, R, rfl, hi, KO, hG, B, ⟨hsz, hbl⟩, hvn⟩ := hrel
  clear K2
  by_cases hlt : i < 13
  · have hlt' : (i : Int) < 13 := by omega
    obtain ⟨k, hk⟩ : ∃ k, zBh[i]? = some k := ⟨_, List.getElem?_eq_getElem (show i < zBh.length from hlt)⟩
    have hC := I.r i k hk
    have hC' := hC
    obtain ⟨o1, c1, o2, c2, o3, c3, hr, -⟩ := hC'
    simp only [Value.agg.injEq] at hr
    have hrow : rows i = [.string k.nm, .string k.sup, .slice o1 k.pool.length c1, .slice o2 k.fs.length c2, .slice o3 k.ms.length c3] := by
     have := congrArg Array.toList hr
     simpa using this
    have hcell : ∀ t, t < 5 → wr.cell? ⟨gv, i * 5 + t, none⟩ = (rows i)[t]? := fun t ht => by
     have h1 := I.o.cellAt (i * 5 + t) (by omega)
     rw [zA7 I.k i hlt t ht] at h1
     rw [← h1]
     unfold World.cell?
     rw [hbl gv hgv.1 hgv.2]
    have d0 : wr.cell? ⟨gv, i * 5, none⟩ = some (.string k.nm) := (hcell 0 (by omega)).trans (by rw [hrow]; rfl)
    have d1 : wr.cell? ⟨gv, i * 5 + 1, none⟩ = some (.string k.sup) := (hcell 1 (by omega)).trans (by rw [hrow]; rfl)
    have d2 : wr.cell? ⟨gv, i * 5 + 2, none⟩ = some (.slice o1 k.pool.length c1) := (hcell 2 (by omega)).trans (by rw [hrow]; rfl)
    have d3 : wr.cell? ⟨gv, i * 5 + 3, none⟩ = some (.slice o2 k.fs.length c2) := (hcell 3 (by omega)).trans (by rw [hrow]; rfl)
    have d4 : wr.cell? ⟨gv, i * 5 + 4, none⟩ = some (.slice o3 k.ms.length c3) := (hcell 4 (by omega)).trans (by rw [hrow]; rfl)
    have hnew : zB7 R k.nm = none := zOp (fun m hm => by
     have h1 : m.k ∈ zBh.take i := by rw [← hG]; simp; exact ⟨m, hm, rfl⟩
     obtain ⟨j, hj⟩ := List.getElem?_of_mem h1
     rw [List.getElem?_take] at hj
     split at hj
     · rename_i hji
       have := List.pairwise_iff_getElem.1 zKv j i (List.getElem?_eq_some_iff.1 hj).1 (List.getElem?_eq_some_iff.1 hk).1 hji
       rw [(List.getElem?_eq_some_iff.1 hj).2, (List.getElem?_eq_some_iff.1 hk).2] at this
       exact this
     · cases hj)
    have hRl : R.length = i := by
     have := congrArg List.length hG
     simp [show zBh.length = 13 from rfl] at this
     omega
    have KO4 := KO.below (zA9 wr (.cells #[.string k.nm, .string k.sup, .slice o1 k.pool.length c1, .slice o2 k.fs.length c2, .slice o3 k.ms.length c3] 31))
    have hE : Ext (seen (zAc W2.heap.size (.slice (some ⟨gv, 0, none⟩) 13 cv)) w3) (seen (offK (w.heap.size + 1) w.heap.size vn) (wr.alloc (.cells #[.string k.nm, .string k.sup, .slice o1 k.pool.length c1, .slice o2 k.fs.length c2, .slice o3 k.ms.length c3] 31))) := zAl (by simp; omega) (fun b hb hx => by
     simp only [zAc, Bool.and_eq_true, decide_eq_true_eq] at hx
     refine ⟨zCr.2 ⟨by omega, by omega, fun e => by have := hvn b e; omega⟩, ?_⟩
     rw [(zA9 wr _).block b (by omega), hbl b hx.1 hb])
    rw [hrow] at hC
    have hP := D.zA0 (zQf _ _ _ _ _ R KO4 k _ (zAp.ext hE hC) hnew (by omega))
    have B4 := B.alloc (Nat.le_of_lt (Nat.lt_of_lt_of_le (show w.heap.size < W2.heap.size by omega) (by omega))) (.cells #[.string k.nm, .string k.sup, .slice o1 k.pool.length c1, .slice o2 k.fs.length c2, .slice o3 k.ms.length c3] 31)
    clear hcell hC hr hRl
    go_wp2_with fail
    refine hP.out.mono ?_
    rintro e w5 ⟨⟨u, rfl⟩, v5, b5, K5, st5, hv5⟩
    have hs5 := st5.size
    simp only [World.size_alloc] at hs5
    have G5 : zNf (⟨k, b5⟩ :: R) (i + 1) := by
     unfold zNf at hG ⊢
     rw [List.reverse_cons, List.map_append, hG, List.take_add_one, hk]; rfl
    have B5 : Below w.heap.size w w5 := ⟨st5.os.trans B4.os, st5.tape.trans B4.tape, st5.output.trans B4.output, Nat.le_trans B4.size st5.size, fun b hb => by
     rw [st5.block b (by have := B4.size; simp only [World.size_alloc] at this ⊢; omega) (by omega) (by omega) (fun e => by have := hvn b e; omega), B4.block b hb]⟩
    have hbl5 : ∀ b, W2.heap.size ≤ b → b < w3.heap.size → w5.heap[b]? = w3.heap[b]? := fun b h1 h2 => by
     rw [st5.block b (by simp; omega) (by omega) (by omega) (fun e => by have := hvn b e; omega), (zA9 wr _).block b (by omega), hbl b h1 h2]
    have hv6 : ∀ g, v5.ownBlock = some g → w3.heap.size ≤ g := fun g hg => by
     rcases hv5 g hg with h | h
     · exact hvn g h
     · simp only [World.size_alloc] at h; omega
    go_wp2
    go_roundw
    case rel => exact ⟨i + 1, v5, _, by go_num, by omega, K5, G5, B5, ⟨by omega, hbl5⟩, hv6⟩
    case measure => simp [intOf]; omega
  · have hlt' : ¬ (i : Int) < 13 := by omega
    have : i = 13 := by omega
    subst this
    go_wp2
    go_ret
    exact ⟨_, rfl, _, _, _, KO, by rw [← List.map_reverse]; exact hG, B⟩
end Go.Proofs.YtpehimfnkmepnaaGreat.K
namespace Go.Proofs.YtpehimfnkmepnaaGreat.K
open Go.RowKit Q Q.D
theorem zQt (a1 : Option Addr) (c1 : Nat) (a2 : Option Addr) (c2 : Nat) (l : List ByteArray) (w : World) (h1 : LAt 1 zDm w a1 c1 l) (h2 : LAt 1 zDm w a2 c2 l) :
 Calls Tryz.prog 34 #[.slice a1 l.length c1, .slice a2 l.length c2] w fun e w' => e = .returned (.bool true) ∧ Below w.heap.size w w' := by
 have hbig := h1.big
 go_enter Tryz.func34, Tryz.ntmps34
 go_wp2
 go_loopw [5] (fun iv wr => ∃ i : Nat, iv = .int .i64 (i : Int) ∧ i ≤ l.length ∧ Below w.heap.size w wr) (fun iv _ => l.length - (intOf iv).toNat)
 case atStart => exact ⟨0, rfl, Nat.zero_le _, Below.refl _ _⟩
 case round =>
  obtain ⟨i, rfl, hi, hB⟩ := hrel
  by_cases hlt : i < l.length
  · have hlt' : (i : Int) < (l.length : Int) := by omega
    obtain ⟨_, _, r1, g1, k1⟩ := h1.below hB (fun _ _ h => h)
    obtain ⟨_, _, r2, g2, k2⟩ := h2.below hB (fun _ _ h => h)
    obtain ⟨b1, o1, rfl, _, d1⟩ := g1 (by omega)
    obtain ⟨b2, o2, rfl, _, d2⟩ := g2 (by omega)
    obtain ⟨x, hx⟩ : ∃ x, l[i]? = some x := ⟨_, List.getElem?_eq_getElem hlt⟩
    have e1 := d1 i hlt 0 (.string x) (by rw [(k1 i x hx).1]; rfl)
    have e2 := d2 i hlt 0 (.string x) (by rw [(k2 i x hx).1]; rfl)
    simp only [Nat.mul_one, Nat.add_zero] at e1 e2
    clear d1 d2 g1 g2 k1 k2
    go_wp2_with fail
    go_region
    all_goals go_wp2
    all_goals go_roundw
    all_goals first
     | exact ⟨i + 1, by go_num, by omega, hB.drew⟩
     | (simp [intOf]; omega)
  · have hlt' : ¬ (i : Int) < (l.length : Int) := by omega
    go_wp2
    go_ret
    exact ⟨rfl, hB⟩
end Go.Proofs.YtpehimfnkmepnaaGreat.K
