/- Texts KY FRo. -/
import Derived.Test.YtccbgdbipihoaaaBu09
import Derived.Test.YtccbgdbipihoaaaBu06
namespace Go.Proofs.Ytccbgdbipihoaaa.K
open Go.RowKit Go.ChangeMaps Q Q.D

def GivenR (R : List Mem) (i : Nat) : Prop := R.reverse.map Mem.k = givenK.take i

theorem mfind_not {R : List Mem} {s : ByteArray} (h : ∀ m ∈ R, (s == m.k.nm) = false) : mfind R s = none := by
  induction R with
  | nil => rfl
  | cons m o ih =>
    unfold mfind
    rw [h m (by simp)]
    exact ih (fun x hx => h x (by simp [hx]))
theorem given_apart : givenK.Pairwise (fun a b => (b.nm == a.nm) = false) := by decide

set_option maxRecDepth 8000 in
set_option maxHeartbeats 4000000 in
theorem new_any (w : World) : Calls Try.prog 5 #[] w fun e w' => ∃ pk mb v R, e = .returned (.pointer (some ⟨pk, 0, none⟩)) ∧ KinO w.heap.size w' pk mb v R ∧ R.reverse.map Mem.k = givenK ∧ Below w.heap.size w w' := by
  have hmm := @run_makeMap Try.prog
  go_enter Try.func5, Try.ntmps5
  go_wp2_with fail
  have K2 : KinO w.heap.size ((w.alloc (.map #[] 0)).alloc (.cells #[.slice none 0 0, .map (some w.heap.size)] 53)) (w.heap.size + 1) w.heap.size (.slice none 0 0) [] := by
    have hb := Blk.new (w.alloc (.map #[] 0)) #[.slice none 0 0, .map (some w.heap.size)] 53
    rw [World.size_alloc] at hb
    exact ⟨by omega, Nat.le_refl _, hb, World.ownsRow_nil _ _ _ _, ⟨#[], 0, (Below.heap_alloc _ _ _ (by simp)).trans (World.alloc_heap_new w _), rfl⟩, trivial⟩
  have B2 : Below w.heap.size w ((w.alloc (.map #[] 0)).alloc (.cells #[.slice none 0 0, .map (some w.heap.size)] 53)) := ((Below.refl _ w).alloc (Nat.le_refl _) _).alloc (by simp) _
  have hs2 : w.heap.size + 1 < ((w.alloc (.map #[] 0)).alloc (.cells #[.slice none 0 0, .map (some w.heap.size)] 53)).heap.size := by simp
  generalize (w.alloc (.map #[] 0)).alloc (.cells #[.slice none 0 0, .map (some w.heap.size)] 53) = W2 at *
  refine (given_any W2).mono ?_
  rintro e w3 ⟨v, rows, rfl, I⟩
  obtain ⟨gv, cv, rfl⟩ := own_form I.o (by decide)
  rw [show givenK.length = 13 from rfl] at *
  have hgv := I.o.lt gv rfl
  have hs3 := I.B.size
  clear hmm
  go_wp2_with fail
  go_loopw [9] (fun iv wr => ∃ (i : Nat) (vn : Value) (R : List Mem), iv = .int .i64 (i : Int) ∧ i ≤ 13 ∧ KinO w.heap.size wr (w.heap.size + 1) w.heap.size vn R ∧ GivenR R i ∧ Below w.heap.size w wr ∧ (w3.heap.size ≤ wr.heap.size ∧ ∀ b, W2.heap.size ≤ b → b < w3.heap.size → wr.heap[b]? = w3.heap[b]?) ∧ ∀ g, vn.ownBlock = some g → w3.heap.size ≤ g) (fun iv _ => 13 - (intOf iv).toNat)
  case atStart => exact ⟨0, _, [], rfl, by omega, K2.below I.B, rfl, next B2 I.B, ⟨Nat.le_refl _, fun _ _ _ => rfl⟩, fun g hg => by simp [Value.ownBlock] at hg⟩
  case round =>
    obtain ⟨i, vn, R, rfl, hi, KO, hG, B, ⟨hsz, hbl⟩, hvn⟩ := hrel
    clear K2
    by_cases hlt : i < 13
    · have hlt' : (i : Int) < 13 := by omega
      obtain ⟨k, hk⟩ : ∃ k, givenK[i]? = some k := ⟨_, List.getElem?_eq_getElem (show i < givenK.length from hlt)⟩
      have hC := I.r i k hk
      have hC' := hC
      obtain ⟨o1, c1, o2, c2, o3, c3, hr, -⟩ := hC'
      simp only [Value.agg.injEq] at hr
      have hrow : rows i = [.string k.nm, .string k.sup, .slice o1 k.pool.length c1, .slice o2 k.fs.length c2, .slice o3 k.ms.length c3] := by
        have := congrArg Array.toList hr
        simpa using this
      have hcell : ∀ t, t < 5 → wr.cell? ⟨gv, i * 5 + t, none⟩ = (rows i)[t]? := fun t ht => by
        have h1 := I.o.cellAt (i * 5 + t) (by omega)
        rw [flatR_at I.k i hlt t ht] at h1
        rw [← h1]
        unfold World.cell?
        rw [hbl gv hgv.1 hgv.2]
      have d0 : wr.cell? ⟨gv, i * 5, none⟩ = some (.string k.nm) := (hcell 0 (by omega)).trans (by rw [hrow]; rfl)
      have d1 : wr.cell? ⟨gv, i * 5 + 1, none⟩ = some (.string k.sup) := (hcell 1 (by omega)).trans (by rw [hrow]; rfl)
      have d2 : wr.cell? ⟨gv, i * 5 + 2, none⟩ = some (.slice o1 k.pool.length c1) := (hcell 2 (by omega)).trans (by rw [hrow]; rfl)
      have d3 : wr.cell? ⟨gv, i * 5 + 3, none⟩ = some (.slice o2 k.fs.length c2) := (hcell 3 (by omega)).trans (by rw [hrow]; rfl)
      have d4 : wr.cell? ⟨gv, i * 5 + 4, none⟩ = some (.slice o3 k.ms.length c3) := (hcell 4 (by omega)).trans (by rw [hrow]; rfl)
      have hnew : mfind R k.nm = none := mfind_not (fun m hm => by
        have h1 : m.k ∈ givenK.take i := by rw [← hG]; simp; exact ⟨m, hm, rfl⟩
        obtain ⟨j, hj⟩ := List.getElem?_of_mem h1
        rw [List.getElem?_take] at hj
        split at hj
        · rename_i hji
          have := List.pairwise_iff_getElem.1 given_apart j i (List.getElem?_eq_some_iff.1 hj).1 (List.getElem?_eq_some_iff.1 hk).1 hji
          rw [(List.getElem?_eq_some_iff.1 hj).2, (List.getElem?_eq_some_iff.1 hk).2] at this
          exact this
        · cases hj)
      have hRl : R.length = i := by
        have := congrArg List.length hG
        simp [show givenK.length = 13 from rfl] at this
        omega
      have KO4 := KO.below (balloc wr (.cells #[.string k.nm, .string k.sup, .slice o1 k.pool.length c1, .slice o2 k.fs.length c2, .slice o3 k.ms.length c3] 60))
      have hE : Ext (seen (newBut W2.heap.size (.slice (some ⟨gv, 0, none⟩) 13 cv)) w3) (seen (offK (w.heap.size + 1) w.heap.size vn) (wr.alloc (.cells #[.string k.nm, .string k.sup, .slice o1 k.pool.length c1, .slice o2 k.fs.length c2, .slice o3 k.ms.length c3] 60))) := seen_mono (by simp; omega) (fun b hb hx => by
        simp only [newBut, Bool.and_eq_true, decide_eq_true_eq] at hx
        refine ⟨offK_iff.2 ⟨by omega, by omega, fun e => by have := hvn b e; omega⟩, ?_⟩
        rw [(balloc wr _).block b (by omega), hbl b hx.1 hb])
      rw [hrow] at hC
      have hP := D.hidIt (put_core _ _ _ _ _ R KO4 k _ (ClassV.ext hE hC) hnew (by omega))
      have B4 := B.alloc (Nat.le_of_lt (Nat.lt_of_lt_of_le (show w.heap.size < W2.heap.size by omega) (by omega))) (.cells #[.string k.nm, .string k.sup, .slice o1 k.pool.length c1, .slice o2 k.fs.length c2, .slice o3 k.ms.length c3] 60)
      clear hcell hC hr hRl
      go_wp2_with fail
      refine hP.out.mono ?_
      rintro e w5 ⟨⟨u, rfl⟩, v5, b5, K5, st5, hv5⟩
      have hs5 := st5.size
      simp only [World.size_alloc] at hs5
      have G5 : GivenR (⟨k, b5⟩ :: R) (i + 1) := by
        unfold GivenR at hG ⊢
        rw [List.reverse_cons, List.map_append, hG, List.take_add_one, hk]; rfl
      have B5 : Below w.heap.size w w5 := ⟨st5.os.trans B4.os, st5.tape.trans B4.tape, st5.output.trans B4.output, Nat.le_trans B4.size st5.size, fun b hb => by
        rw [st5.block b (by have := B4.size; simp only [World.size_alloc] at this ⊢; omega) (by omega) (by omega) (fun e => by have := hvn b e; omega), B4.block b hb]⟩
      have hbl5 : ∀ b, W2.heap.size ≤ b → b < w3.heap.size → w5.heap[b]? = w3.heap[b]? := fun b h1 h2 => by
        rw [st5.block b (by simp; omega) (by omega) (by omega) (fun e => by have := hvn b e; omega), (balloc wr _).block b (by omega), hbl b h1 h2]
      have hv6 : ∀ g, v5.ownBlock = some g → w3.heap.size ≤ g := fun g hg => by
        rcases hv5 g hg with h | h
        · exact hvn g h
        · simp only [World.size_alloc] at h; omega
      go_wp2
      go_roundw
      case rel => exact ⟨i + 1, v5, _, by go_num, by omega, K5, G5, B5, ⟨by omega, hbl5⟩, hv6⟩
      case measure => simp [intOf]; omega
    · have hlt' : ¬ (i : Int) < 13 := by omega
      have : i = 13 := by omega
      subst this
      go_wp2
      go_ret
      exact ⟨_, rfl, _, _, _, KO, by rw [← List.map_reverse]; exact hG, B⟩
end Go.Proofs.Ytccbgdbipihoaaa.K
namespace Go.Proofs.Ytccbgdbipihoaaa.Fr
open Go.RowKit Q Q.D K

set_option maxRecDepth 8000 in
set_option maxHeartbeats 2000000 in
theorem equalFunc_no (w : World) (o1 o2 : Option Addr) (n1 c1 n2 c2 : Nat) (fv : Value) (hne : n1 ≠ n2) :
    Calls Try.prog 36 #[.slice o1 n1 c1, .slice o2 n2 c2, fv] w fun e w' => e = .returned (.bool false) ∧ w' = w := by
  have hne' : ¬ (n1 : Int) = (n2 : Int) := by omega
  go_enter Try.func36, Try.ntmps36
  go_wp2_with fail
  go_ret
  exact ⟨rfl, rfl⟩
set_option maxRecDepth 8000 in
set_option maxHeartbeats 2000000 in
theorem eachFits_no (w : World) (pk : Nat) (o1 o2 : Option Addr) (n1 c1 n2 c2 : Nat) (hne : n1 ≠ n2) :
    Calls Try.prog 25 #[.pointer (some ⟨pk, 0, none⟩), .slice o1 n1 c1, .slice o2 n2 c2] w fun e w' => e = .returned (.bool false) ∧ Below w.heap.size w w' := by
  have GE := D.hidIt (fun W fv => equalFunc_no W o1 o2 n1 c1 n2 c2 fv hne)
  go_enter Try.func25, Try.ntmps25
  go_wp2_with (first | (go_at_call 36; refine (GE.out _ _).mono ?_; rintro e w' ⟨rfl, hww⟩; cases hww))
  go_ret
  exact ⟨rfl, balloc w _⟩
set_option maxRecDepth 8000 in
set_option maxHeartbeats 2000000 in
theorem fits_no (w : World) (pk : Nat) (v v' : Value) (f f' : RD) (h : FrV w v f) (h' : FrV w v' f') (hne : f.loc.length ≠ f'.loc.length) :
    Calls Try.prog 11 #[.pointer (some ⟨pk, 0, none⟩), v, v'] w fun e w' => e = .returned (.bool false) ∧ Below w.heap.size w w' := by
  obtain ⟨o1, c1, o2, c2, rfl, _, _⟩ := h
  obtain ⟨p1, d1, p2, d2, rfl, _, _⟩ := h'
  have GE := D.hidIt (fun W => eachFits_no W pk o1 p1 f.loc.length c1 f'.loc.length d1 hne)
  have b2 := (balloc w (.cells #[.int .i64 f.aT, .slice o1 f.loc.length c1, .slice o2 f.stk.length c2] 34)).trans ((balloc _ (.cells #[.int .i64 f'.aT, .slice p1 f'.loc.length d1, .slice p2 f'.stk.length d2] 34)).mono (by simp))
  go_enter Try.func11, Try.ntmps11
  go_wp2_with (first | (go_at_call 25; refine (GE.out _).mono ?_; rintro e w3 ⟨rfl, b3⟩))
  go_ret
  exact ⟨rfl, b2.trans (b3.mono b2.size)⟩
theorem z_1 : firstZ ⟨#[65]⟩ ⟨#[120]⟩ false 0 = (none, 13) := by kernel_rfl
theorem z_2 : firstZ ⟨#[65]⟩ ⟨#[40, 73, 41, 86]⟩ false 1 = (none, 19) := by kernel_rfl
theorem z_3 : firstZ ⟨#[65]⟩ ⟨#[40, 41, 86]⟩ true 0 = (some [], 0) := by kernel_rfl
theorem z_4 : firstZ ⟨#[65]⟩ ⟨#[40, 41, 86]⟩ false 17 = (none, 19) := by kernel_rfl
theorem PopQ.lit {w w' : World} {f : RD} {K : Nat} {e : Ending} (h : PopQ w f K e w') (hs : (∀ s ∈ f.loc, s.size ≤ 9223372036854775807) ∧ ∀ s ∈ f.stk, s.size ≤ 9223372036854775807) :
    ∃ o1 c1 o2 c2 o3 c3, e = .returned (.tuple #[.agg #[.int .i64 f.aT, .slice o1 f.loc.length c1, .slice o2 (f.stk.take K).length c2], .slice o3 (f.stk.drop K).length c3, .int .i64 0]) ∧ LAt 1 TextR w' o1 c1 f.loc ∧ LAt 1 TextR w' o2 c2 (f.stk.take K) ∧ LAt 1 TextR w' o3 c3 (f.stk.drop K) ∧ Below w.heap.size w w' := by
  obtain ⟨v, vp, M, rfl, hf, _, ho, _, b⟩ := h
  obtain ⟨o1, c1, o2, c2, rfl, k1, k2⟩ := hf.view hs.1 (fun s h => hs.2 s (List.mem_of_mem_take h))
  obtain ⟨o3, c3, rfl, k3⟩ := ho.at (fun s h => hs.2 s (List.mem_of_mem_drop h))
  exact ⟨o1, c1, o2, c2, o3, c3, rfl, k1, k2, k3, b⟩
theorem FrV.row {w : World} {x : Int} {s1 s2 : Value} {f : RD} (h : FrV w (.agg #[.int .i64 x, s1, s2]) f) : FrameR w [.int .i64 x, s1, s2] f := by
  obtain ⟨o1, c1, o2, c2, e, h1, h2⟩ := h
  cases e
  exact ⟨o1, c1, o2, c2, rfl, h1, h2⟩
def frI : RD := ⟨3, [⟨#[73]⟩], [⟨#[73]⟩, ⟨#[48]⟩]⟩
theorem frI_small : (∀ s ∈ frI.loc, s.size ≤ 9223372036854775807) ∧ ∀ s ∈ frI.stk, s.size ≤ 9223372036854775807 := by decide
theorem frI_laid (w : World) : FrV ((w.alloc (.cells #[.string ⟨#[73]⟩] 9)).alloc (.cells #[.string ⟨#[73]⟩, .string ⟨#[48]⟩] 9)) (.agg #[.int .i64 3, .slice (some ⟨w.heap.size, 0, none⟩) 1 1, .slice (some ⟨w.heap.size + 1, 0, none⟩) 2 2]) frI := by
  refine ⟨_, _, _, _, rfl, (laid1 w _ (by decide)).below (balloc _ _) (fun _ _ h => h), ?_⟩
  have := laids (w.alloc (.cells #[.string ⟨#[73]⟩] 9)) [⟨#[73]⟩, ⟨#[48]⟩] (by decide) (by decide)
  rw [World.size_alloc] at this
  exact this
set_option maxRecDepth 8000 in
set_option maxHeartbeats 8000000 in
theorem numbers_any (w : World) : Calls Try.prog 3 #[] w fun e w' => e = .returned (.bool true) ∧ Below w.heap.size w w' := by
  have GN := D.hidIt (new_any w)
  go_enter Try.func3, Try.ntmps3
  go_upto_region 7 with (first
    | (go_at_call 5; refine GN.out.mono ?_; rintro e w1 ⟨pk, mb, vv, R, rfl, _, _, b1⟩; have HB := D.hidIt b1; clear b1)
    | (go_at_call 6; refine (first_any _ _ _ _ _ _ _ _ _ _ _ _ _ _ _ _ _ (by decide) (by decide)).mono ?_; intro e w1 hq; (first | (rw [z_1] at hq; obtain ⟨rfl, b1⟩ := FirstQ.no hq) | (rw [z_2] at hq; obtain ⟨rfl, b1⟩ := FirstQ.no hq) | (rw [z_3] at hq; obtain ⟨aL, pL, rfl, _, b1⟩ := FirstQ.yes hq (by decide))); have HB := D.hidIt (HB.out.trans (b1.mono HB.out.size)); clear hq b1))
  clear GN
  have FV7 := frI_laid w1
  have Y7 := Blk.new ((w1.alloc (.cells #[.string ⟨#[73]⟩] 9)).alloc (.cells #[.string ⟨#[73]⟩, .string ⟨#[48]⟩] 9)) #[.int .i64 0, .slice none 0 0, .slice none 0 0] 34
  have b7 := (balloc w1 (.cells #[.string ⟨#[73]⟩] 9)).trans ((balloc _ (.cells #[.string ⟨#[73]⟩, .string ⟨#[48]⟩] 9)).mono (by simp))
  have hz7 : ((w1.alloc (.cells #[.string ⟨#[73]⟩] 9)).alloc (.cells #[.string ⟨#[73]⟩, .string ⟨#[48]⟩] 9)).heap.size = w1.heap.size + 1 + 1 := by simp
  obtain ⟨FX, b8⟩ := boxed ((w1.alloc (.cells #[.string ⟨#[73]⟩] 9)).alloc (.cells #[.string ⟨#[73]⟩, .string ⟨#[48]⟩] 9)) #[.int .i64 3, .slice (some ⟨w1.heap.size, 0, none⟩) 1 1, .slice (some ⟨w1.heap.size + 1, 0, none⟩) 2 2]
  have HFV := D.hidIt (FV7.below b8)
  have HB8 := D.hidIt (HB.out.trans ((b7.trans (b8.mono b7.size)).mono HB.out.size))
  rw [hz7] at Y7 FX HFV HB8
  have HFX := D.hidIt FX
  clear FV7 b7 hz7 b8 FX
  go_upto_region 8 with (refine wpList_store_row rfl 34 _ _ rfl (w1.heap.size + 1 + 1) #[.int .i64 3, .slice (some ⟨w1.heap.size, 0, none⟩) 1 1, .slice (some ⟨w1.heap.size + 1, 0, none⟩) 2 2] rfl rfl 34 _ Y7 (by kernel_rfl) rfl (by simp [Value.oneCell']) ?_)
  generalize (((w1.alloc (.cells #[.string ⟨#[73]⟩] 9)).alloc (.cells #[.string ⟨#[73]⟩, .string ⟨#[48]⟩] 9)).alloc (.cells #[.int .i64 0, .slice none 0 0, .slice none 0 0] 34)).setRow (w1.heap.size + 1 + 1) #[.int .i64 3, .slice (some ⟨w1.heap.size, 0, none⟩) 1 1, .slice (some ⟨w1.heap.size + 1, 0, none⟩) 2 2] = W8 at *
  generalize w1.heap.size + 1 + 1 = bf at *
  generalize some (⟨w1.heap.size, 0, none⟩ : Addr) = oa at *
  generalize some (⟨w1.heap.size + 1, 0, none⟩ : Addr) = ob at *
  clear Y7 HB
  -- g, p, d
  have f0 := HFX.out.cell 0
  have f1 := HFX.out.cell 1
  have f2 := HFX.out.cell 2
  simp at f0 f1 f2
  have G8 := D.hidIt (pop_ok W8 _ frI HFV.out 0 2 (by decide) (by decide) rfl)
  go_upto_region 9 with (first
    | (go_at_call 7; refine G8.out.mono ?_; intro e w9 hq; obtain ⟨g1, d1, g2, d2, g3, d3, he, gl1, gl2, gl3, b9⟩ := PopQ.lit hq frI_small; have he' : e = .returned (.tuple #[.agg #[.int .i64 3, .slice g1 1 d1, .slice g2 2 d2], .slice g3 0 d3, .int .i64 0]) := he; clear he hq; subst he')
    | (refine wpList_store_row rfl 34 _ _ rfl w9.heap.size #[.int .i64 3, .slice g1 1 d1, .slice g2 2 d2] rfl rfl 34 _ (Blk.new w9 _ _) (by kernel_rfl) rfl (by simp [Value.oneCell']) ?_))
  obtain ⟨GX, b10⟩ := boxed w9 #[.int .i64 3, .slice g1 1 d1, .slice g2 2 d2]
  have b11 := b9.trans (b10.mono b9.size)
  have HB10 := D.hidIt (HB8.out.trans (b11.mono HB8.out.size))
  have HFX10 := D.hidIt (HFX.out.below b11)
  have HFV10 := D.hidIt (HFV.out.below b11)
  have HGX10 := D.hidIt GX
  have HGV10 : Hid (FrV _ (.agg #[.int .i64 3, .slice g1 1 d1, .slice g2 2 d2]) frI) := ⟨g1, d1, g2, d2, rfl, gl1.below b10 (fun _ _ h => h), gl2.below b10 (fun _ _ h => h)⟩
  clear G8 f0 f1 f2 HB8 HFX HFV gl1 gl2 gl3 b9 b10 b11 GX
  generalize (w9.alloc (.cells #[.int .i64 0, .slice none 0 0, .slice none 0 0] 34)).setRow w9.heap.size #[.int .i64 3, .slice g1 1 d1, .slice g2 2 d2] = W10 at *
  generalize w9.heap.size = bg at *
  -- h, q, e
  have f0 := HFX10.out.cell 0
  have f1 := HFX10.out.cell 1
  have f2 := HFX10.out.cell 2
  simp at f0 f1 f2
  have G10 := D.hidIt (pop_ok W10 _ frI HFV10.out 2 0 (by decide) (by decide) rfl)
  go_upto_region 10 with (first
    | (go_at_call 7; refine G10.out.mono ?_; intro e w11 hq; obtain ⟨h1, e1, h2, e2, h3, e3, he, gl1, gl2, gl3, b9⟩ := PopQ.lit hq frI_small; have he' : e = .returned (.tuple #[.agg #[.int .i64 3, .slice h1 1 e1, .slice h2 0 e2], .slice h3 2 e3, .int .i64 0]) := he; clear he hq; subst he')
    | (refine wpList_store_row rfl 34 _ _ rfl w11.heap.size #[.int .i64 3, .slice h1 1 e1, .slice h2 0 e2] rfl rfl 34 _ (Blk.new w11 _ _) (by kernel_rfl) rfl (by simp [Value.oneCell']) ?_))
  obtain ⟨HX, b10⟩ := boxed w11 #[.int .i64 3, .slice h1 1 e1, .slice h2 0 e2]
  have b11 := b9.trans (b10.mono b9.size)
  have HB12 := D.hidIt (HB10.out.trans (b11.mono HB10.out.size))
  have HFX12 := D.hidIt (HFX10.out.below b11)
  have HFV12 := D.hidIt (HFV10.out.below b11)
  have HGX12 := D.hidIt (HGX10.out.below b11)
  have HGV12 := D.hidIt (HGV10.out.below b11)
  have HHX12 := D.hidIt HX
  have HQ12 : Hid (LAt 1 TextR _ h3 e3 [⟨#[73]⟩, ⟨#[48]⟩]) := gl3.below b10 (fun _ _ h => h)
  clear G10 f0 f1 f2 HB10 HFX10 HFV10 HGX10 HGV10 gl1 gl2 gl3 b9 b10 b11 HX
  generalize (w11.alloc (.cells #[.int .i64 0, .slice none 0 0, .slice none 0 0] 34)).setRow w11.heap.size #[.int .i64 3, .slice h1 1 e1, .slice h2 0 e2] = W12 at *
  generalize w11.heap.size = bh at *
  -- m
  have f0 := HFX12.out.cell 0
  have f1 := HFX12.out.cell 1
  have f2 := HFX12.out.cell 2
  simp at f0 f1 f2
  have b9 := balloc W12 (.cells #[.string ⟨#[73]⟩] 9)
  have G12 := D.hidIt (push_no _ _ frI (HFV12.out.below b9) 2 (some ⟨W12.heap.size, 0, none⟩) 1 [⟨#[73]⟩] (by decide) (by decide) (by decide))
  unfold zeroF at G12
  go_upto_region 11 with (first
    | (go_at_call 8; refine G12.out.mono ?_; rintro e w13 ⟨rfl, b13⟩)
    | (refine wpList_store_row rfl 34 _ _ rfl w13.heap.size #[.int .i64 0, .slice none 0 0, .slice none 0 0] rfl rfl 34 _ (Blk.new w13 _ _) (by kernel_rfl) rfl (by simp [Value.oneCell']) ?_))
  obtain ⟨_, b10⟩ := boxed w13 #[.int .i64 0, .slice none 0 0, .slice none 0 0]
  have b11 := (b9.trans (b13.mono b9.size)).trans (b10.mono (Nat.le_trans b9.size b13.size))
  have HB14 := D.hidIt (HB12.out.trans (b11.mono HB12.out.size))
  have HFX14 := D.hidIt (HFX12.out.below b11)
  have HFV14 := D.hidIt (HFV12.out.below b11)
  have HGX14 := D.hidIt (HGX12.out.below b11)
  have HGV14 := D.hidIt (HGV12.out.below b11)
  have HHX14 := D.hidIt (HHX12.out.below b11)
  have HQ14 := D.hidIt (HQ12.out.below b11 (fun _ _ h => h))
  clear G12 f0 f1 f2 HB12 HFX12 HFV12 HGX12 HGV12 HHX12 HQ12 b9 b13 b10 b11
  generalize (w13.alloc (.cells #[.int .i64 0, .slice none 0 0, .slice none 0 0] 34)).setRow w13.heap.size #[.int .i64 0, .slice none 0 0, .slice none 0 0] = W14 at *
  generalize w13.heap.size = bm at *
  -- n, o
  have f0 := HFX14.out.cell 0
  have f1 := HFX14.out.cell 1
  have f2 := HFX14.out.cell 2
  simp at f0 f1 f2
  have b9 := balloc W14 (.cells #[.string ⟨#[73]⟩] 9)
  have G14 := D.hidIt (push_ok _ _ frI (HFV14.out.below b9) 3 (some ⟨W14.heap.size, 0, none⟩) 1 [⟨#[73]⟩] (laid1 W14 _ (by decide)) (by decide) (by decide) (by decide) (by decide))
  go_upto_region 12 with (first
    | (go_at_call 8; refine G14.out.mono ?_; rintro e w15 ⟨v15, rfl, of15, b15⟩; obtain ⟨n1, m1, n2, m2, he, _, _⟩ := of15.view (by decide) (by decide); have he' : v15 = .agg #[.int .i64 3, .slice n1 1 m1, .slice n2 3 m2] := he; clear he of15; subst he')
    | (refine wpList_store_row rfl 34 _ _ rfl w15.heap.size #[.int .i64 3, .slice n1 1 m1, .slice n2 3 m2] rfl rfl 34 _ (Blk.new w15 _ _) (by kernel_rfl) rfl (by simp [Value.oneCell']) ?_))
  obtain ⟨NX, b10⟩ := boxed w15 #[.int .i64 3, .slice n1 1 m1, .slice n2 3 m2]
  have b11 := (b9.trans (b15.mono b9.size)).trans (b10.mono (Nat.le_trans b9.size b15.size))
  have HB16 := D.hidIt (HB14.out.trans (b11.mono HB14.out.size))
  have HFX16 := D.hidIt (HFX14.out.below b11)
  have HFV16 := D.hidIt (HFV14.out.below b11)
  have HGX16 := D.hidIt (HGX14.out.below b11)
  have HGV16 := D.hidIt (HGV14.out.below b11)
  have HHX16 := D.hidIt (HHX14.out.below b11)
  have HQ16 := D.hidIt (HQ14.out.below b11 (fun _ _ h => h))
  have HNX16 := D.hidIt NX
  clear G14 f0 f1 f2 HB14 HFX14 HFV14 HGX14 HGV14 HHX14 HQ14 b9 b15 b10 b11 NX
  generalize (w15.alloc (.cells #[.int .i64 0, .slice none 0 0, .slice none 0 0] 34)).setRow w15.heap.size #[.int .i64 3, .slice n1 1 m1, .slice n2 3 m2] = W16 at *
  generalize w15.heap.size = bn at *
  -- r
  have G16 := D.hidIt (first_any W16 ⟨#[65]⟩ ⟨#[]⟩ ⟨#[40, 41, 86]⟩ false false 0 17 none none none 0 0 0 0 0 0 (by decide) (by decide))
  rw [z_4] at G16
  go_upto_region 13 with (first
    | (go_at_call 6; refine G16.out.mono ?_; intro e W18 hq; obtain ⟨rfl, b11⟩ := FirstQ.no hq))
  have HB18 := D.hidIt (HB16.out.trans (b11.mono HB16.out.size))
  have HFX18 := D.hidIt (HFX16.out.below b11)
  have HFV18 := D.hidIt (HFV16.out.below b11)
  have HGX18 := D.hidIt (HGX16.out.below b11)
  have HGV18 := D.hidIt (HGV16.out.below b11)
  have HHX18 := D.hidIt (HHX16.out.below b11)
  have HQ18 := D.hidIt (HQ16.out.below b11 (fun _ _ h => h))
  have HNX18 := D.hidIt (HNX16.out.below b11)
  clear G16 HB16 HFX16 HFV16 HGX16 HGV16 HHX16 HQ16 HNX16 b11 hq
  have f0 := HFX18.out.cell 0
  have f1 := HFX18.out.cell 1
  have f2 := HFX18.out.cell 2
  have k0 := HGX18.out.cell 0
  have k1 := HGX18.out.cell 1
  have k2 := HGX18.out.cell 2
  simp at f0 f1 f2 k0 k1 k2
  have G18 : Hid (Calls Try.prog 9 #[.agg #[.int .i64 3, .slice g1 1 d1, .slice g2 2 d2], .agg #[.int .i64 3, .slice oa 1 1, .slice ob 2 2]] W18 fun e w' => e = .returned (.bool true) ∧ Below W18.heap.size W18 w') := same_frame frI [.int .i64 3, .slice g1 1 d1, .slice g2 2 d2] [.int .i64 3, .slice oa 1 1, .slice ob 2 2] W18 (FrV.row HGV18.out) (FrV.row HFV18.out)
  have GS : Hid (∀ W, Below W18.heap.size W18 W → Calls Try.prog 10 #[.slice h3 2 e3, .slice (some ⟨W.heap.size, 0, none⟩) 2 2] (W.alloc (.cells #[.string ⟨#[73]⟩, .string ⟨#[48]⟩] 9)) fun e w' => e = .returned (.bool true) ∧ Below (W.alloc (.cells #[.string ⟨#[73]⟩, .string ⟨#[48]⟩] 9)).heap.size (W.alloc (.cells #[.string ⟨#[73]⟩, .string ⟨#[48]⟩] 9)) w') := fun W hW => same_any h3 e3 _ _ [⟨#[73]⟩, ⟨#[48]⟩] _ ((HQ18.out.below hW (fun _ _ h => h)).below (balloc W _) (fun _ _ h => h)) (laids W [⟨#[73]⟩, ⟨#[48]⟩] (by decide) (by decide))
  have GF : Hid (∀ W, Below W18.heap.size W18 W → Calls Try.prog 11 #[.pointer (some ⟨pk, 0, none⟩), .agg #[.int .i64 3, .slice oa 1 1, .slice ob 2 2], .agg #[.int .i64 0, .slice none 0 0, .slice none 0 0]] W fun e w' => e = .returned (.bool false) ∧ Below W.heap.size W w') := fun W hW => fits_no W pk _ _ frI _ (HFV18.out.below hW) (zero_view W) (by decide)
  clear HFV18 HGV18 HQ18 HGX18
  go_wp2_with (first
    | (go_at_call 9; refine G18.out.mono ?_; rintro e w19 ⟨rfl, b19⟩; have i2 := (HHX18.out.below b19).cell 2; simp at i2)
    | (go_at_call 10; refine (GS.out _ b19).mono ?_; rintro e w20 ⟨rfl, b20⟩; have b21 := b19.trans (((balloc w19 _).trans (b20.mono (by simp))).mono b19.size); have j2 := (HNX18.out.below b21).cell 2; have l0 := (HFX18.out.below b21).cell 0; have l1 := (HFX18.out.below b21).cell 1; have l2 := (HFX18.out.below b21).cell 2; simp at j2 l0 l1 l2)
    | (go_at_call 11; refine (GF.out _ b21).mono ?_; rintro e w22 ⟨rfl, b22⟩)
    | (go_at_call 12; refine (known_any _).mono ?_; rintro e w23 ⟨rfl, b23⟩))
  go_ret
  exact ⟨rfl, HB18.out.trans ((b21.trans ((b22.trans (b23.mono b22.size)).mono b21.size)).mono HB18.out.size)⟩
end Go.Proofs.Ytccbgdbipihoaaa.Fr
