import Derived.Test.YtpehimfnkmepnaaGreatBz19
import Derived.Test.YtpehimfnkmepnaaGreatBz20
import Derived.Test.YtpehimfnkmepnaaGreatBz12
set_option maxRecDepth 8000
set_option maxHeartbeats 40000000
namespace Go.Proofs.YtpehimfnkmepnaaGreat.M
open Go.RowKit
inductive BK
 | go
 | run
 | main
 | calc
def BK.pl : BK → Bool
 | .calc => true
 | _ => false
def BK.st : BK → Bool
 | .main => true
 | .calc => true
 | _ => false
def BK.gv : BK → Bool
 | .go => true
 | .calc => true
 | _ => false
def BK.nm : BK → ByteArray
 | .go => ⟨#[103, 111]⟩
 | .run => ⟨#[114, 117, 110]⟩
 | .main => ⟨#[109, 97, 105, 110]⟩
 | .calc => ⟨#[99, 97, 108, 99]⟩
def BK.ds : BK → ByteArray
 | .go => ⟨#[40, 73, 41, 73]⟩
 | .run => ⟨#[40, 41, 86]⟩
 | .main => ⟨#[40, 41, 86]⟩
 | .calc => ⟨#[40, 73, 73, 41, 73]⟩
def s0 (pool : List CD) : SG := ⟨pool, [], 0, 110, [], []⟩
def preG (σ : SG) : SG := (((((σ.put 25 0 0).put 58 4 0).put 21 1 0).put 54 2 0).put 3 0 0).put 54 0 0
def preR (σ : SG) : SG := (((((σ.put 25 0 0).put 58 8 0).put 3 0 0).put 54 0 0).put 3 0 0).put 54 1 0
def pre (k : BK) (pool : List CD) : SG := match k with
 | .go => (preG (s0 pool)).slots [3, 5, 6, 7, 8, 9]
 | .run => (preR (s0 pool)).slots [2, 3, 4, 5, 6, 7, 9]
 | .main => (s0 pool).slots [0, 1, 2, 3, 4, 5, 6, 7, 8, 9]
 | .calc => (s0 pool).slots [2, 3]
def zBm (k : BK) (pool : List CD) (σ : SG) : Prop := ∃ σ1, Sm 0 k.pl (pre k pool) σ1 ∧ if k.gv = true then ∃ σ2, Num 2 k.pl σ1 σ2 ∧ σ = σ2.put 172 0 0 else σ = σ1.put 177 0 0
theorem zSh {σ0 σ : SG} (h : Rl 0 σ0 σ) (i : Nat) (hi : i < 16) : Rl 0 σ0 (σ.slot i) := by
 unfold SG.slot
 split
 · exact (h.put (f1 3 (by decide))).put (f2 54 _ (by decide) (by omega) (by omega))
 · exact (h.put (f1 1 (by decide))).put (f2 58 _ (by decide) (by omega) (by omega))
theorem zFt {σ0 : SG} : ∀ (l : List Nat) (σ : SG), Rl 0 σ0 σ → (∀ i ∈ l, i < 16) → Rl 0 σ0 (σ.slots l)
 | [], _, h, _ => h
 | i :: l, σ, h, hl => zFt l (σ.slot i) (zSh h i (hl i (by simp))) (fun j hj => hl j (by simp [hj]))
theorem zOu (σ : SG) (i : Nat) : (σ.slot i).left = σ.left - 2 ∧ (σ.slot i).labels = σ.labels := by
 unfold SG.slot
 split
 · exact ⟨by simp only [zAm]; omega, rfl⟩
 · exact ⟨by simp only [zAm]; omega, rfl⟩
theorem zDy : ∀ (l : List Nat) (σ : SG), (σ.slots l).left = σ.left - 2 * (l.length : Int) ∧ (σ.slots l).labels = σ.labels
 | [], σ => ⟨by simp [SG.slots], rfl⟩
 | i :: l, σ => by
   have h := zDy l (σ.slot i)
   have k := zOu σ i
   refine ⟨?_, h.2.trans k.2⟩
   show ((σ.slot i).slots l).left = _
   rw [h.1, k.1]
   simp only [List.length_cons]
   omega
theorem zRt (σ : SG) : Rl 0 σ (preG σ) :=
 ((((((Rl.refl σ).put (f2 25 0 (by decide) (by omega) (by omega))).put (f2 58 4 (by decide) (by omega) (by omega))).put (f2 21 1 (by decide) (by omega) (by omega))).put (f2 54 2 (by decide) (by omega) (by omega))).put (f1 3 (by decide))).put (f2 54 0 (by decide) (by omega) (by omega))
theorem zRu (σ : SG) : Rl 0 σ (preR σ) :=
 ((((((Rl.refl σ).put (f2 25 0 (by decide) (by omega) (by omega))).put (f2 58 8 (by decide) (by omega) (by omega))).put (f1 3 (by decide))).put (f2 54 0 (by decide) (by omega) (by omega))).put (f1 3 (by decide))).put (f2 54 1 (by decide) (by omega) (by omega))
theorem zRb (k : BK) (pool : List CD) : Rl 0 (s0 pool) (pre k pool) := by
 cases k
 · exact zFt _ _ (zRt _) (by decide)
 · exact zFt _ _ (zRu _) (by decide)
 · exact zFt _ _ (Rl.refl _) (by decide)
 · exact zFt _ _ (Rl.refl _) (by decide)
theorem zQd (k : BK) (pool : List CD) : 80 ≤ (pre k pool).left ∧ (pre k pool).labels = 0 := by
 cases k
 · have h := zDy [3, 5, 6, 7, 8, 9] (preG (s0 pool)); exact ⟨by show 80 ≤ ((preG (s0 pool)).slots _).left; rw [h.1]; simp [preG, s0, SG.put], h.2⟩
 · have h := zDy [2, 3, 4, 5, 6, 7, 9] (preR (s0 pool)); exact ⟨by show 80 ≤ ((preR (s0 pool)).slots _).left; rw [h.1]; simp [preR, s0, SG.put], h.2⟩
 · have h := zDy [0, 1, 2, 3, 4, 5, 6, 7, 8, 9] (s0 pool); exact ⟨by show 80 ≤ ((s0 pool).slots _).left; rw [h.1]; simp [s0], h.2⟩
 · have h := zDy [2, 3] (s0 pool); exact ⟨by show 80 ≤ ((s0 pool).slots _).left; rw [h.1]; simp [s0], h.2⟩
theorem zNk {pool : List CD} (h : pool.length ≤ 256) : Good (s0 pool) := ⟨fun x hx => by simp [s0] at hx, fun x hx => by simp [s0] at hx, h⟩
structure Made (pool : List CD) (σ : SG) : Prop where
 good : Good σ
 lab : σ.labels ≤ 54
 her : σ.heres = σ.labels
 ins : σ.ins ≤ 130
 pos : 1 ≤ σ.ins
theorem zBt {k : BK} {pool : List CD} {σ : SG} (h : zBm k pool σ) (hp : pool.length ≤ 256) : Made pool σ := by
 obtain ⟨σ1, h1, h2⟩ := h
 have r1 := (zRb k pool).tr0 h1.rl
 have l0 := zQd k pool
 have l1 := h1.left
 have b1 := h1.l54 (by rw [l0.2]; omega)
 have hb : bnd 0 = -9 := by decide
 have hl1 : -9 ≤ σ1.left := by omega
 have hi0 : (s0 pool).ins = 0 := rfl
 have hh0 : (s0 pool).heres = 0 := rfl
 split at h2
 · obtain ⟨σ2, h3, rfl⟩ := h2
   have r2 := (r1.tr0 h3.rl).put (f1 172 (by decide))
   have l2 := h3.left
   have b2 := h3.lab
   have e := r2.ins
   have f := r2.bal
   simp only [zAm] at e
   have g2 : (s0 pool).left = 110 := rfl
   have g3 : (s0 pool).labels = 0 := rfl
   exact ⟨r2.good (zNk hp), by rw [zAo, b2]; exact b1, by rw [hh0, g3] at f; omega, by rw [hi0, g2] at e; omega, by have := (zFc σ2 172 0 0).2; omega⟩
 · subst h2
   have r2 := r1.put (f1 177 (by decide))
   have e := r2.ins
   have f := r2.bal
   simp only [zAm] at e
   have g2 : (s0 pool).left = 110 := rfl
   have g3 : (s0 pool).labels = 0 := rfl
   exact ⟨r2.good (zNk hp), by rw [zAo]; exact b1, by rw [hh0, g3] at f; omega, by rw [hi0, g2] at e; omega, by have := (zFc σ1 177 0 0).2; omega⟩
theorem zNc {k : BK} {pool : List CD} {σ : SG} (h : zBm k pool σ) (hp : ∀ c ∈ pool, P3.zBd c = true) : ∀ c ∈ σ.pool, P3.zBd c = true := by
 obtain ⟨σ1, h1, h2⟩ := h
 have r1 := (zRb k pool).tr0 h1.rl
 split at h2
 · obtain ⟨σ2, h3, rfl⟩ := h2
   exact ((r1.tr0 h3.rl).put (f1 172 (by decide))).rt hp
 · subst h2
   exact (r1.put (f1 177 (by decide))).rt hp
theorem zLb (ps : List Int) : ∀ (l : List LN) (p : Int), (cod ps l p).length = (l.filter (fun x => !decide (0 ≤ x.hr))).length
 | [], _ => rfl
 | x :: l, p => by
   rw [zFs]
   by_cases h : 0 ≤ x.hr
   · rw [if_pos h, zLb ps l p]; simp [h]
   · rw [if_neg h]; simp [h, zLb ps l]
theorem Made.code {pool : List CD} {σ : SG} (h : Made pool σ) : (zBw σ).length ≤ 400 := by
 have := h.ins
 have e : (zBw σ).length = σ.ins := zLb _ _ _
 omega
theorem Made.lines {pool : List CD} {σ : SG} (h : Made pool σ) : σ.ls.length ≤ 1000 := by
 have := h.ins
 have := h.lab
 have := h.her
 have := zOj σ
 omega
theorem Made.refs {pool : List CD} {σ : SG} (h : Made pool σ) : Refs σ := ⟨fun x hx => (h.good.ls x hx).2, h.good.hs⟩
def zBy (pr : Nat) (w : World) : Prop := ∃ (vr : Value) (rl : List Int) (at_ : Nat), w.heap[pr]? = some (.cells #[vr, .int .i64 at_] 104 (0, 0)) ∧ NV w.heap.size pr w vr rl ∧ at_ ≤ rl.length
theorem NV.mono {B B' pr : Nat} {w : World} {v : Value} {l : List Int} (h : NV B pr w v l) (hB : B ≤ B') : NV B' pr w v l := by
 obtain ⟨ao, cap, e, hc, hm, hx, hl⟩ := h
 refine ⟨ao, cap, e, hc, hm, hx, ?_⟩
 rcases hl with h | ⟨g, off, e, hg, hp, hl⟩
 · exact .inl h
 · exact .inr ⟨g, off, e, by omega, hp, hl⟩
theorem zQo {pr : Nat} {w : World} {vr : Value} {rl : List Int} {at_ : Nat} (h : w.heap[pr]? = some (.cells #[vr, .int .i64 at_] 104 (0, 0)) ∧ NV w.heap.size pr w vr rl ∧ at_ ≤ rl.length) (hlt : at_ < rl.length) : zBy pr (w.setCell ⟨pr, 1, none⟩ (.int .i64 ((at_ : Int) + 1))) := by
 refine ⟨vr, rl, at_ + 1, ?_, ?_, hlt⟩
 · rw [zB3 h.1]; simp
 · have := h.2.1.kq ((Kq.refl w.heap.size pr w).set (o := 1) (u := .int .i64 ((at_ : Int) + 1)) (.inr rfl))
   rw [show (w.setCell ⟨pr, 1, none⟩ (.int .i64 ((at_ : Int) + 1))).heap.size = w.heap.size by simp]
   exact this
theorem zBy.drewS {pr : Nat} {w : World} {x : Addr} {u : Value} (h : zBy pr (w.setCell x u)) (q : Nat) : zBy pr ((w.drewN q).setCell x u) := h
theorem zQs {pr : Nat} {w : World} {vr : Value} {rl : List Int} {at_ : Nat} (h : w.heap[pr]? = some (.cells #[vr, .int .i64 at_] 104 (0, 0)) ∧ NV w.heap.size pr w vr rl ∧ at_ ≤ rl.length) (q : Nat) : zBy pr (w.drewN q) := ⟨vr, rl, at_, h⟩
theorem zPk (pr k : Nat) (w : World) (h : zBy pr w) (hk : 0 < k) (hk2 : k ≤ 100000) :
 Calls Tryz.prog 55 #[.pointer (some ⟨pr, 0, none⟩), .int .i64 (k : Int)] w fun e w' => (∃ x : Nat, x < k ∧ e = .returned (.int .i64 (x : Int))) ∧ zBy pr w' ∧ Kq w.heap.size pr w w' ∧ zPi pr w w' := by
 obtain ⟨vr, rl, at_, hR⟩ := h
 have c0 := zA1 hR.1 0 rfl
 have c1 := zA1 hR.1 1 rfl
 have hal := hR.2.2
 obtain ⟨ao, cap, hvr, hc, hm, hrg, hl⟩ := hR.2.1
 rw [hvr] at c0
 unfold maxLen at hm
 have f0 := zAa hR.1
 have hk' : ¬ (k : Int) = 0 := by omega
 by_cases hlt : at_ < rl.length
 · obtain ⟨x, hx⟩ : ∃ x, rl[at_]? = some x := ⟨rl[at_], List.getElem?_eq_getElem hlt⟩
   have hlt' : (at_ : Int) < (rl.length : Int) := by omega
   obtain ⟨g, off, rfl, hg, hgp, hcl⟩ : ∃ g off, ao = some ⟨g, off, none⟩ ∧ g < w.heap.size ∧ g < pr ∧ ∀ j x, rl[j]? = some x → w.cell? ⟨g, off + j, none⟩ = some (.int .i64 x) := by
    rcases hl with h | h
    · rw [h] at hlt; simp at hlt
    · exact h
   have cx := hcl at_ x hx
   have HT := zA0 (zQo hR hlt)
   obtain ⟨r0, r1⟩ := hrg x (List.mem_of_getElem? hx)
   have HK1 := zA0 ((Kq.refl w.heap.size pr w).set (o := 1) (u := .int .i64 ((at_ : Int) + 1)) (.inr rfl))
   clear hl hcl hrg hx hR
   by_cases hneg : x < 0
   · have t0 := Int.emod_nonneg (-(x + 1)) (b := (k : Int)) (by omega)
     have t1 := Int.emod_lt_of_pos (-(x + 1)) (b := (k : Int)) (by omega)
     go_enter Tryz.func55, Tryz.ntmps55
     go_wp2
     go_quiet (fail)
     go_wp2
     go_quiet (fail)
     go_wp2
     go_ret
     refine ⟨⟨((-(x + 1)) % (k : Int)).toNat, by omega, zC4 ?_⟩, HT.out.drewS _, HK1.out.drewS _, fun k hk => Below.heap_setCell _ _ _ _ hk⟩
     rw [Int.toNat_of_nonneg t0, ← Int.neg_tmod, Int.tmod_eq_emod_of_nonneg (by omega)]
   · have t0 := Int.emod_nonneg x (b := (k : Int)) (by omega)
     have t1 := Int.emod_lt_of_pos x (b := (k : Int)) (by omega)
     go_enter Tryz.func55, Tryz.ntmps55
     go_wp2
     go_quiet (fail)
     go_wp2
     go_quiet (fail)
     go_wp2
     go_ret
     refine ⟨⟨(x % (k : Int)).toNat, by omega, zC4 ?_⟩, HT.out.drewS _, HK1.out.drewS _, fun k hk => Below.heap_setCell _ _ _ _ hk⟩
     rw [Int.toNat_of_nonneg t0]
 · have hlt' : ¬ (at_ : Int) < (rl.length : Int) := by omega
   clear hl hrg
   go_enter Tryz.func55, Tryz.ntmps55
   go_wp2
   go_quiet (fail)
   go_wp2
   go_ret
   refine ⟨⟨0, hk, zC4 ?_⟩, zQs hR _, (Kq.refl w.heap.size pr w).drew _, fun _ _ => rfl⟩
   simp
end Go.Proofs.YtpehimfnkmepnaaGreat.M
