import Derived.Shelf.SlicesQ.IndexFunc
import Derived.Shelf.SlicesE.IndexFunc
import Derived.Test.YtpehimfnkmepnaaGreatProg
import Derived.WalkKit
import Derived.WalkSpells
import Derived.WalkLawsBesides
import Derived.Maps.AppendAt
import Derived.WalkMore
import Derived.Lib.Strings
set_option maxRecDepth 8000
set_option maxHeartbeats 40000000
namespace Go.Proofs.YtpehimfnkmepnaaGreat.Q
open Go.RowKit Go.Shelf Go.Lib Go.Proofs
variable {P : Program} {ρ : Ren}
def anyN (n : Nat) (p : Nat → Bool) : Bool := (List.range n).any p
theorem zE0 (n : Nat) (p : Nat → Bool) : anyN n p = true ↔ ∃ j, j < n ∧ p j = true := by simp [anyN]
theorem zEi {α : Type} (l : List α) (p : Nat → Bool) (q : α → Bool) (h : ∀ i x, l[i]? = some x → p i = q x) : anyN l.length p = l.any q := by
 rw [Bool.eq_iff_iff, zE0, List.any_eq_true]
 constructor
 · rintro ⟨j, hj, hp⟩
   exact ⟨l[j], List.getElem_mem hj, by rw [← h j l[j] (List.getElem?_eq_getElem hj)]; exact hp⟩
 · rintro ⟨x, hx, hq⟩
   obtain ⟨i, hi⟩ := List.getElem?_of_mem hx
   exact ⟨i, (List.getElem?_eq_some_iff.1 hi).1, by rw [h i x hi]; exact hq⟩
theorem idxQ (L : SlLaysH0.n6 P ρ) (k : Nat) (aE : ∀ w, (isAgg (ρ.t 23)).run P w = .ok true w) (zE : ∀ w, (Go.sizeOf (ρ.t 23)).run P w = .ok k w) (rows : Nat → List Value) (n : Nat) (hk : ∀ x, x < n → (rows x).length = k)
 (p : Nat → Bool) (g : Nat) (lb : Array Value) (eg : ∀ args w, (callFunc g args).run P w = .ok (.enter g args) w) (ao : Option Addr) (c : Nat) (w : World)
 (hp : ∀ (W : World) (j : Nat), j < n → Below w.heap.size w W → Calls P g (#[.agg (rows j).toArray] ++ lb) W fun e w' => e = .returned (.bool (p j)) ∧ Below w.heap.size w w') (hbig : n ≤ 9223372036854775807)
 (hc : 0 < n → ∃ b off, ao = some ⟨b, off, none⟩ ∧ b < w.heap.size ∧ ∀ j, j < n → ∀ i v, (rows j)[i]? = some v → w.cell? ⟨b, off + j * k + i, none⟩ = some v) :
 Calls P (ρ.f 6) #[.slice ao n c, .func (.func g) #[] lb] w fun e w' => (∃ r : Int, e = .returned (.int .i64 r) ∧ decide (0 ≤ r) = anyN n p) ∧ Below w.heap.size w w' := by
 have mixed := L.mixed; have t0 := L.t0; have a0 := L.a0; have z0 := L.z0; have v0 := L.v0; have t3 := L.t3; have a3 := L.a3; have z3 := L.z3; have v3 := L.v3; have t4 := L.t4; have a4 := L.a4; have z4 := L.z4; have v4 := L.v4; have t22 := L.t22; have a22 := L.a22; have z22 := L.z22; have v22 := L.v22; have t25 := L.t25; have a25 := L.a25; have z25 := L.z25; have v25 := L.v25
 have hrow : ∀ (W : World), Below w.heap.size w W → ∀ j, j < n → ∃ b off, ao = some ⟨b, off, none⟩ ∧ Sem.run P (loadCellsFrom ⟨b, off + j * k, none⟩ 0 k #[]) W = .ok (rows j).toArray W := fun W hW j hj => by
  obtain ⟨b, off, e, hb, hc⟩ := hc (by omega)
  refine ⟨b, off, e, run_loadCellsFrom_list P _ _ (rows j) k (hk _ hj) (fun i v hi => ?_)⟩
  rw [Addr.add_lit, hW.cell (p := ⟨b, off + j * k + i, none⟩) hb]
  exact hc j hj i v hi
 clear hc
 obtain ⟨_, _, FG⟩ := L.f6
 go_enter FG, SlBodyH.n6_ntmps ρ
 go_wp2
 go_loopg [5, 8] n (fun gg _ s8 wr => ∃ kk : Nat, kk ≤ n ∧ n - kk ≤ gg ∧ s8 = .int .i64 kk ∧ Aside (Below w.heap.size w wr) ∧ Aside (∀ j, j < kk → p j = false))
 case atStart => exact ⟨0, Nat.zero_le _, by omega, rfl, Below.refl _ w, fun j hj => absurd hj (Nat.not_lt_zero _)⟩
 case round =>
  obtain ⟨kk, hkk, hg, rfl, BW, A⟩ := hrel
  by_cases hlt : kk < n
  · have hltz : (kk : Int) < (n : Int) := by omega
    obtain ⟨b, off, rfl, l2⟩ := hrow wr BW.out kk (by omega)
    have hcall := hp wr kk hlt BW.out
    clear hrow hp
    cases hq : p kk with
    | true =>
      rw [hq] at hcall
      go_wp2_with (go_at_fn g; refine hcall.mono ?_; rintro e w' ⟨rfl, hb'⟩)
      go_ret
      refine ⟨⟨_, rfl, ?_⟩, hb'⟩
      rw [Bool.eq_iff_iff, zE0]
      simp only [decide_eq_true_eq]
      exact ⟨fun _ => ⟨kk, hlt, hq⟩, fun _ => by omega⟩
    | false =>
      rw [hq] at hcall
      go_wp2_with (go_at_fn g; refine hcall.mono ?_; rintro e w' ⟨rfl, hb'⟩)
      go_roundg (n - (kk + 1))
      case measure => omega
      case rel =>
       refine ⟨kk + 1, by omega, by omega, by go_num, hb', (show Aside _ from fun j hj => ?_)⟩
       by_cases e : j = kk
       · subst e
         exact hq
       · exact A.out j (by omega)
  · have hltz : ¬ (kk : Int) < (n : Int) := by omega
    have : kk = n := by omega
    subst this
    go_wp2
    go_ret
    refine ⟨⟨_, rfl, ?_⟩, BW.out⟩
    rw [Bool.eq_iff_iff, zE0]
    simp only [decide_eq_true_eq]
    exact ⟨fun h => absurd h (by omega), fun ⟨j, hj, hq⟩ => by rw [A.out j hj] at hq; cases hq⟩
theorem hasQ (L : SlLaysH0.n8 P ρ) (k : Nat) (aE : ∀ w, (isAgg (ρ.t 23)).run P w = .ok true w) (zE : ∀ w, (Go.sizeOf (ρ.t 23)).run P w = .ok k w) (rows : Nat → List Value) (n : Nat) (hk : ∀ x, x < n → (rows x).length = k)
 (p : Nat → Bool) (g : Nat) (lb : Array Value) (eg : ∀ args w, (callFunc g args).run P w = .ok (.enter g args) w) (ao : Option Addr) (c : Nat) (w : World)
 (hp : ∀ (W : World) (j : Nat), j < n → Below w.heap.size w W → Calls P g (#[.agg (rows j).toArray] ++ lb) W fun e w' => e = .returned (.bool (p j)) ∧ Below w.heap.size w w') (hbig : n ≤ 9223372036854775807)
 (hc : 0 < n → ∃ b off, ao = some ⟨b, off, none⟩ ∧ b < w.heap.size ∧ ∀ j, j < n → ∀ i v, (rows j)[i]? = some v → w.cell? ⟨b, off + j * k + i, none⟩ = some v) :
 Calls P (ρ.f 8) #[.slice ao n c, .func (.func g) #[] lb] w fun e w' => e = .returned (.bool (anyN n p)) ∧ Below w.heap.size w w' := by
 have mixed := L.mixed; have t0 := L.t0; have a0 := L.a0; have z0 := L.z0; have v0 := L.v0; have t3 := L.t3; have a3 := L.a3; have z3 := L.z3; have v3 := L.v3; have t4 := L.t4; have a4 := L.a4; have z4 := L.z4; have v4 := L.v4; have t22 := L.t22; have a22 := L.a22; have z22 := L.z22; have v22 := L.v22; have t25 := L.t25; have a25 := L.a25; have z25 := L.z25; have v25 := L.v25
 have e6 : ∀ args w, (callFunc (ρ.f 6) args).run P w = .ok (.enter (ρ.f 6) args) w := L.f6.enters rfl
 have hI := idxQ { L with } k aE zE rows n hk p g lb eg ao c w hp hbig hc
 generalize anyN n p = A at hI ⊢
 obtain ⟨_, _, FG⟩ := L.f8
 go_enter FG, SlBodyH.n8_ntmps ρ
 go_wp2_with (go_at_fn (ρ.f 6); refine hI.mono ?_; rintro e w' ⟨⟨r, rfl, hr⟩, hb'⟩)
 go_ret
 exact ⟨by rw [← hr]; rfl, hb'⟩
theorem idxE (L : SlLaysH.n6 P ρ) (enc : Nat → Value)
 (p : Nat → Bool) (g : Nat) (lb : Array Value) (eg : ∀ args w, (callFunc g args).run P w = .ok (.enter g args) w) (ao : Option Addr) (n c : Nat) (w : World)
 (hp : ∀ (W : World) (j : Nat), j < n → Below w.heap.size w W → Calls P g (#[enc j] ++ lb) W fun e w' => e = .returned (.bool (p j)) ∧ Below w.heap.size w w') (hbig : n ≤ 9223372036854775807)
 (hc : 0 < n → ∃ b off, ao = some ⟨b, off, none⟩ ∧ b < w.heap.size ∧ ∀ j, j < n → w.cell? ⟨b, off + j, none⟩ = some (enc j)) :
 Calls P (ρ.f 6) #[.slice ao n c, .func (.func g) #[] lb] w fun e w' => (∃ r : Int, e = .returned (.int .i64 r) ∧ decide (0 ≤ r) = anyN n p) ∧ Below w.heap.size w w' := by
 have mixed := L.mixed; have t0 := L.t0; have a0 := L.a0; have z0 := L.z0; have v0 := L.v0; have t3 := L.t3; have a3 := L.a3; have z3 := L.z3; have v3 := L.v3; have t4 := L.t4; have a4 := L.a4; have z4 := L.z4; have v4 := L.v4; have t22 := L.t22; have a22 := L.a22; have z22 := L.z22; have v22 := L.v22; have a23 := L.a23; have z23 := L.z23; have t25 := L.t25; have a25 := L.a25; have z25 := L.z25; have v25 := L.v25
 have hrow : ∀ (W : World), Below w.heap.size w W → ∀ j, j < n → ∃ b off, ao = some ⟨b, off, none⟩ ∧ W.cell? ⟨b, off + j, none⟩ = some (enc j) := fun W hW j hj => by
  obtain ⟨b, off, e, hb, hc⟩ := hc (by omega)
  refine ⟨b, off, e, ?_⟩
  rw [hW.cell (p := ⟨b, off + j, none⟩) hb]
  exact hc j hj
 clear hc
 obtain ⟨_, _, FG⟩ := L.f6
 go_enter FG, SlBodyH.n6_ntmps ρ
 go_wp2
 go_loopg [5, 8] n (fun gg _ s8 wr => ∃ kk : Nat, kk ≤ n ∧ n - kk ≤ gg ∧ s8 = .int .i64 kk ∧ Aside (Below w.heap.size w wr) ∧ Aside (∀ j, j < kk → p j = false))
 case atStart => exact ⟨0, Nat.zero_le _, by omega, rfl, Below.refl _ w, fun j hj => absurd hj (Nat.not_lt_zero _)⟩
 case round =>
  obtain ⟨kk, hkk, hg, rfl, BW, A⟩ := hrel
  by_cases hlt : kk < n
  · have hltz : (kk : Int) < (n : Int) := by omega
    obtain ⟨b, off, rfl, l2⟩ := hrow wr BW.out kk (by omega)
    have hcall := hp wr kk hlt BW.out
    clear hrow hp
    cases hq : p kk with
    | true =>
      rw [hq] at hcall
      go_wp2_with (go_at_fn g; refine hcall.mono ?_; rintro e w' ⟨rfl, hb'⟩)
      go_ret
      refine ⟨⟨_, rfl, ?_⟩, hb'⟩
      rw [Bool.eq_iff_iff, zE0]
      simp only [decide_eq_true_eq]
      exact ⟨fun _ => ⟨kk, hlt, hq⟩, fun _ => by omega⟩
    | false =>
      rw [hq] at hcall
      go_wp2_with (go_at_fn g; refine hcall.mono ?_; rintro e w' ⟨rfl, hb'⟩)
      go_roundg (n - (kk + 1))
      case measure => omega
      case rel =>
       refine ⟨kk + 1, by omega, by omega, by go_num, hb', (show Aside _ from fun j hj => ?_)⟩
       by_cases e : j = kk
       · subst e
         exact hq
       · exact A.out j (by omega)
  · have hltz : ¬ (kk : Int) < (n : Int) := by omega
    have : kk = n := by omega
    subst this
    go_wp2
    go_ret
    refine ⟨⟨_, rfl, ?_⟩, BW.out⟩
    rw [Bool.eq_iff_iff, zE0]
    simp only [decide_eq_true_eq]
    exact ⟨fun h => absurd h (by omega), fun ⟨j, hj, hq⟩ => by rw [A.out j hj] at hq; cases hq⟩
theorem hasE (L : SlLaysH.n8 P ρ) (enc : Nat → Value)
 (p : Nat → Bool) (g : Nat) (lb : Array Value) (eg : ∀ args w, (callFunc g args).run P w = .ok (.enter g args) w) (ao : Option Addr) (n c : Nat) (w : World)
 (hp : ∀ (W : World) (j : Nat), j < n → Below w.heap.size w W → Calls P g (#[enc j] ++ lb) W fun e w' => e = .returned (.bool (p j)) ∧ Below w.heap.size w w') (hbig : n ≤ 9223372036854775807)
 (hc : 0 < n → ∃ b off, ao = some ⟨b, off, none⟩ ∧ b < w.heap.size ∧ ∀ j, j < n → w.cell? ⟨b, off + j, none⟩ = some (enc j)) :
 Calls P (ρ.f 8) #[.slice ao n c, .func (.func g) #[] lb] w fun e w' => e = .returned (.bool (anyN n p)) ∧ Below w.heap.size w w' := by
 have mixed := L.mixed; have t0 := L.t0; have a0 := L.a0; have z0 := L.z0; have v0 := L.v0; have t3 := L.t3; have a3 := L.a3; have z3 := L.z3; have v3 := L.v3; have t4 := L.t4; have a4 := L.a4; have z4 := L.z4; have v4 := L.v4; have t22 := L.t22; have a22 := L.a22; have z22 := L.z22; have v22 := L.v22; have a23 := L.a23; have z23 := L.z23; have t25 := L.t25; have a25 := L.a25; have z25 := L.z25; have v25 := L.v25
 have e6 : ∀ args w, (callFunc (ρ.f 6) args).run P w = .ok (.enter (ρ.f 6) args) w := L.f6.enters rfl
 have hI := idxE { L with } enc p g lb eg ao n c w hp hbig hc
 generalize anyN n p = A at hI ⊢
 obtain ⟨_, _, FG⟩ := L.f8
 go_enter FG, SlBodyH.n8_ntmps ρ
 go_wp2_with (go_at_fn (ρ.f 6); refine hI.mono ?_; rintro e w' ⟨⟨r, rfl, hr⟩, hb'⟩)
 go_ret
 exact ⟨by rw [← hr]; rfl, hb'⟩
end Go.Proofs.YtpehimfnkmepnaaGreat.Q
namespace Go.Proofs
open Go.Shelf
def Tryz.hasC_ren : Go.Shelf.Ren := ⟨fun | 6 => 199 | 8 => 170 | n => n, fun | 22 => 27 | 23 => 112 | 25 => 160 | n => n, fun | n => n⟩
theorem Tryz.hasC : Go.Proofs.SlLaysH0.n8 Tryz.prog Tryz.hasC_ren := {
 mixed := by kernel_rfl
 f6 := ⟨Tryz.f199.name, by decide, Tryz.func199.trans (congrArg some (by kernel_rfl))⟩
 f8 := ⟨Tryz.f170.name, by decide, Tryz.func170.trans (congrArg some (by kernel_rfl))⟩
 t0 := Tryz.underlying0
 a0 := Tryz.isAgg0
 z0 := Tryz.sizeOf0
 v0 := Tryz.zeroValue0
 t3 := Tryz.underlying3
 a3 := Tryz.isAgg3
 z3 := Tryz.sizeOf3
 v3 := Tryz.zeroValue3
 t4 := Tryz.underlying4
 a4 := Tryz.isAgg4
 z4 := Tryz.sizeOf4
 v4 := Tryz.zeroValue4
 t22 := Tryz.underlying27
 a22 := Tryz.isAgg27
 z22 := Tryz.sizeOf27
 v22 := Tryz.zeroValue27
 t25 := Tryz.underlying160
 a25 := Tryz.isAgg160
 z25 := Tryz.sizeOf160
 v25 := Tryz.zeroValue160 }
def Tryz.hasF_ren : Go.Shelf.Ren := ⟨fun | 6 => 200 | 8 => 176 | n => n, fun | 22 => 28 | 23 => 44 | 25 => 203 | n => n, fun | n => n⟩
theorem Tryz.hasF : Go.Proofs.SlLaysH0.n8 Tryz.prog Tryz.hasF_ren := {
 mixed := by kernel_rfl
 f6 := ⟨Tryz.f200.name, by decide, Tryz.func200.trans (congrArg some (by kernel_rfl))⟩
 f8 := ⟨Tryz.f176.name, by decide, Tryz.func176.trans (congrArg some (by kernel_rfl))⟩
 t0 := Tryz.underlying0
 a0 := Tryz.isAgg0
 z0 := Tryz.sizeOf0
 v0 := Tryz.zeroValue0
 t3 := Tryz.underlying3
 a3 := Tryz.isAgg3
 z3 := Tryz.sizeOf3
 v3 := Tryz.zeroValue3
 t4 := Tryz.underlying4
 a4 := Tryz.isAgg4
 z4 := Tryz.sizeOf4
 v4 := Tryz.zeroValue4
 t22 := Tryz.underlying28
 a22 := Tryz.isAgg28
 z22 := Tryz.sizeOf28
 v22 := Tryz.zeroValue28
 t25 := Tryz.underlying203
 a25 := Tryz.isAgg203
 z25 := Tryz.sizeOf203
 v25 := Tryz.zeroValue203 }
def Tryz.hasM_ren : Go.Shelf.Ren := ⟨fun | 6 => 111 | 8 => 104 | n => n, fun | 22 => 29 | 23 => 39 | 25 => 149 | n => n, fun | n => n⟩
theorem Tryz.hasM : Go.Proofs.SlLaysH0.n8 Tryz.prog Tryz.hasM_ren := {
 mixed := by kernel_rfl
 f6 := ⟨Tryz.f111.name, by decide, Tryz.func111.trans (congrArg some (by kernel_rfl))⟩
 f8 := ⟨Tryz.f104.name, by decide, Tryz.func104.trans (congrArg some (by kernel_rfl))⟩
 t0 := Tryz.underlying0
 a0 := Tryz.isAgg0
 z0 := Tryz.sizeOf0
 v0 := Tryz.zeroValue0
 t3 := Tryz.underlying3
 a3 := Tryz.isAgg3
 z3 := Tryz.sizeOf3
 v3 := Tryz.zeroValue3
 t4 := Tryz.underlying4
 a4 := Tryz.isAgg4
 z4 := Tryz.sizeOf4
 v4 := Tryz.zeroValue4
 t22 := Tryz.underlying29
 a22 := Tryz.isAgg29
 z22 := Tryz.sizeOf29
 v22 := Tryz.zeroValue29
 t25 := Tryz.underlying149
 a25 := Tryz.isAgg149
 z25 := Tryz.sizeOf149
 v25 := Tryz.zeroValue149 }
def Tryz.hasH_ren : Go.Shelf.Ren := ⟨fun | 6 => 235 | 8 => 213 | n => n, fun | 22 => 36 | 23 => 154 | 25 => 226 | n => n, fun | n => n⟩
theorem Tryz.hasH : Go.Proofs.SlLaysH0.n8 Tryz.prog Tryz.hasH_ren := {
 mixed := by kernel_rfl
 f6 := ⟨Tryz.f235.name, by decide, Tryz.func235.trans (congrArg some (by kernel_rfl))⟩
 f8 := ⟨Tryz.f213.name, by decide, Tryz.func213.trans (congrArg some (by kernel_rfl))⟩
 t0 := Tryz.underlying0
 a0 := Tryz.isAgg0
 z0 := Tryz.sizeOf0
 v0 := Tryz.zeroValue0
 t3 := Tryz.underlying3
 a3 := Tryz.isAgg3
 z3 := Tryz.sizeOf3
 v3 := Tryz.zeroValue3
 t4 := Tryz.underlying4
 a4 := Tryz.isAgg4
 z4 := Tryz.sizeOf4
 v4 := Tryz.zeroValue4
 t22 := Tryz.underlying36
 a22 := Tryz.isAgg36
 z22 := Tryz.sizeOf36
 v22 := Tryz.zeroValue36
 t25 := Tryz.underlying226
 a25 := Tryz.isAgg226
 z25 := Tryz.sizeOf226
 v25 := Tryz.zeroValue226 }
def Tryz.hasR_ren : Go.Shelf.Ren := ⟨fun | 6 => 236 | 8 => 215 | n => n, fun | 22 => 37 | 23 => 67 | 25 => 228 | n => n, fun | n => n⟩
theorem Tryz.hasR : Go.Proofs.SlLaysH0.n8 Tryz.prog Tryz.hasR_ren := {
 mixed := by kernel_rfl
 f6 := ⟨Tryz.f236.name, by decide, Tryz.func236.trans (congrArg some (by kernel_rfl))⟩
 f8 := ⟨Tryz.f215.name, by decide, Tryz.func215.trans (congrArg some (by kernel_rfl))⟩
 t0 := Tryz.underlying0
 a0 := Tryz.isAgg0
 z0 := Tryz.sizeOf0
 v0 := Tryz.zeroValue0
 t3 := Tryz.underlying3
 a3 := Tryz.isAgg3
 z3 := Tryz.sizeOf3
 v3 := Tryz.zeroValue3
 t4 := Tryz.underlying4
 a4 := Tryz.isAgg4
 z4 := Tryz.sizeOf4
 v4 := Tryz.zeroValue4
 t22 := Tryz.underlying37
 a22 := Tryz.isAgg37
 z22 := Tryz.sizeOf37
 v22 := Tryz.zeroValue37
 t25 := Tryz.underlying228
 a25 := Tryz.isAgg228
 z25 := Tryz.sizeOf228
 v25 := Tryz.zeroValue228 }
def Tryz.hasS_ren : Go.Shelf.Ren := ⟨fun | 6 => 131 | 8 => 91 | n => n, fun | 22 => 47 | 23 => 9 | 25 => 56 | n => n, fun | n => n⟩
theorem Tryz.hasS : Go.Proofs.SlLaysH.n8 Tryz.prog Tryz.hasS_ren := {
 mixed := by kernel_rfl
 f6 := ⟨Tryz.f131.name, by decide, Tryz.func131.trans (congrArg some (by kernel_rfl))⟩
 f8 := ⟨Tryz.f91.name, by decide, Tryz.func91.trans (congrArg some (by kernel_rfl))⟩
 t0 := Tryz.underlying0
 a0 := Tryz.isAgg0
 z0 := Tryz.sizeOf0
 v0 := Tryz.zeroValue0
 t3 := Tryz.underlying3
 a3 := Tryz.isAgg3
 z3 := Tryz.sizeOf3
 v3 := Tryz.zeroValue3
 t4 := Tryz.underlying4
 a4 := Tryz.isAgg4
 z4 := Tryz.sizeOf4
 v4 := Tryz.zeroValue4
 t22 := Tryz.underlying47
 a22 := Tryz.isAgg47
 z22 := Tryz.sizeOf47
 v22 := Tryz.zeroValue47
 t25 := Tryz.underlying56
 a25 := Tryz.isAgg56
 z25 := Tryz.sizeOf56
 v25 := Tryz.zeroValue56
 a23 := Tryz.isAgg9
 z23 := Tryz.sizeOf9 }
end Go.Proofs
namespace Go.Proofs.YtpehimfnkmepnaaGreat.Q.D
open Go.RowKit
abbrev Bs := List UInt8
def isL (c : UInt8) : Bool := decide (97 ≤ c.toNat ∧ c.toNat ≤ 122 ∨ 65 ≤ c.toNat ∧ c.toNat ≤ 90 ∨ c.toNat = 95 ∨ c.toNat = 36)
def isD (c : UInt8) : Bool := decide (48 ≤ c.toNat ∧ c.toNat ≤ 57)
def okc (k : Nat) (c : UInt8) : Bool := isL c || (isD c && decide (0 < k))
def zDx (l : Bs) : Prop := 1 ≤ l.length ∧ l.length ≤ 64 ∧ ∀ j c, l[j]? = some c → okc j c = true
def nlA : Nat → Nat → Bs → Nat
 | 0, _, _ => 0
 | _ + 1, _, [] => 0
 | m + 1, k, c :: t => if okc k c then nlA m (k + 1) t + 1 else 0
def nl (l : Bs) : Nat := nlA 64 0 l
theorem zJc : ∀ (m k : Nat) (l : Bs) (n : Nat), n ≤ m → (∀ j, j < n → ∃ c, l[j]? = some c ∧ okc (k + j) c = true) →
 (n = m ∨ ∀ c, l[n]? = some c → okc (k + n) c = false) → nlA m k l = n := by
 intro m
 induction m with
 | zero => intro k l n h _ _; simp [nlA]; omega
 | succ m ih =>
   intro k l n hn hok hst
   cases l with
   | nil =>
     simp only [nlA]
     cases n with
     | zero => rfl
     | succ n => obtain ⟨c, h, _⟩ := hok 0 (by omega); simp at h
   | cons c t =>
     simp only [nlA]
     cases n with
     | zero =>
       rcases hst with h | h
       · omega
       · have := h c rfl
         simp only [Nat.add_zero] at this
         rw [this]; rfl
     | succ n =>
       obtain ⟨c', h1, h2⟩ := hok 0 (by omega)
       simp at h1; subst h1
       simp only [Nat.add_zero] at h2
       rw [h2, if_pos rfl, ih (k + 1) t n (by omega) ?_ ?_]
       · intro j hj
         obtain ⟨c', h1, h2⟩ := hok (j + 1) (by omega)
         exact ⟨c', by simpa using h1, by rw [show k + 1 + j = k + (j + 1) by omega]; exact h2⟩
       · rcases hst with h | h
         · left; omega
         · right; intro c' h1
           rw [show k + 1 + n = k + (n + 1) by omega]
           exact h c' (by simpa using h1)
theorem zFa {l : Bs} {n : Nat} (hn : n ≤ 64) (hok : ∀ j, j < n → ∃ c, l[j]? = some c ∧ okc j c = true)
 (hst : n = 64 ∨ ∀ c, l[n]? = some c → okc n c = false) : nl l = n :=
 zJc 64 0 l n hn (fun j hj => by rw [Nat.zero_add]; exact hok j hj) (by rw [Nat.zero_add]; exact hst)
theorem zHu : ∀ (m k : Nat) (l : Bs), nlA m k l ≤ m ∧ nlA m k l ≤ l.length ∧ ∀ j, j < nlA m k l → ∃ c, l[j]? = some c ∧ okc (k + j) c = true := by
 intro m
 induction m with
 | zero => intro k l; simp [nlA]
 | succ m ih =>
   intro k l
   cases l with
   | nil => simp [nlA]
   | cons c t =>
     simp only [nlA]
     by_cases h : okc k c = true
     · rw [if_pos h]
       obtain ⟨h1, h2, h3⟩ := ih (k + 1) t
       refine ⟨by omega, by simp; omega, ?_⟩
       intro j hj
       cases j with
       | zero => exact ⟨c, rfl, by simpa using h⟩
       | succ j =>
         obtain ⟨c', h4, h5⟩ := h3 j (by omega)
         exact ⟨c', by simpa using h4, by rw [show k + (j + 1) = k + 1 + j by omega]; exact h5⟩
     · rw [if_neg h]; simp
theorem zHp (l : Bs) : nl l ≤ 64 := (zHu 64 0 l).1
theorem zS4 (l : Bs) : nl l ≤ l.length := (zHu 64 0 l).2.1
theorem zQr {l : Bs} {j : Nat} (h : j < nl l) : ∃ c, l[j]? = some c ∧ okc j c = true := by
 have := (zHu 64 0 l).2.2 j h
 rwa [Nat.zero_add] at this
theorem zDw {l : Bs} (h : 0 < nl l) : zDx (l.take (nl l)) := by
 have h1 := zHp l
 have h2 := zS4 l
 refine ⟨by simp; omega, by simp; omega, ?_⟩
 intro j c hj
 rw [List.getElem?_take] at hj
 split at hj
 · obtain ⟨c', h3, h4⟩ := zQr (l := l) (by assumption)
   rw [h3] at hj; cases hj; exact h4
 · cases hj
theorem zGo (k : Nat) : okc k 59 = false := by unfold okc; simp [isL, isD]
theorem zJd {nm rest : Bs} (h : zDx nm) : nl (nm ++ 59 :: rest) = nm.length := by
 obtain ⟨h1, h2, h3⟩ := h
 refine zFa h2 ?_ ?_
 · intro j hj
   have : (nm ++ 59 :: rest)[j]? = nm[j]? := List.getElem?_append_left hj
   rw [this, List.getElem?_eq_getElem hj]
   exact ⟨_, rfl, h3 j _ (List.getElem?_eq_getElem hj)⟩
 · right
   intro c hc
   rw [List.getElem?_append_right (Nat.le_refl _)] at hc
   simp at hc; subst hc; exact zGo _
theorem zJ4 {nm : Bs} (h : zDx nm) : nl nm = nm.length := by
 obtain ⟨h1, h2, h3⟩ := h
 refine zFa h2 ?_ ?_
 · intro j hj
   rw [List.getElem?_eq_getElem hj]
   exact ⟨_, rfl, h3 j _ (List.getElem?_eq_getElem hj)⟩
 · right
   intro c hc
   rw [List.getElem?_eq_none (Nat.le_refl _)] at hc
   cases hc
theorem zG5 (l : Bs) : zDx l ↔ 0 < nl l ∧ nl l = l.length := by
 constructor
 · intro h
   have := zJ4 h
   have := h.1
   exact ⟨by omega, by omega⟩
 · rintro ⟨h1, h2⟩
   have := zDw h1
   rwa [h2, List.take_length] at this
def base (l : Bs) : Nat :=
 match l with
 | [] => 0
 | c :: t => if c = 73 then 1 else if c = 76 then (if 0 < nl t ∧ t[nl t]? = some 59 then nl t + 2 else 0) else 0
def flen (l : Bs) : Nat :=
 match l with
 | [] => 0
 | c :: t => if c = 91 then (if base t = 0 then 0 else base t + 1) else base (c :: t)
def zF5 (f : Bs) : Prop := f = [73] ∨ ∃ nm, zDx nm ∧ f = 76 :: (nm ++ [59])
def Fld (f : Bs) : Prop := zF5 f ∨ ∃ g, zF5 g ∧ f = 91 :: g
theorem zH7 {f : Bs} (h : zF5 f) (rest : Bs) : base (f ++ rest) = f.length := by
 rcases h with rfl | ⟨nm, hn, rfl⟩
 · simp [base]
 · have e : nl (nm ++ 59 :: rest) = nm.length := zJd hn
   have h1 := hn.1
   have e2 : (nm ++ 59 :: rest)[nm.length]? = some 59 := by rw [List.getElem?_append_right (Nat.le_refl _)]; simp
   simp only [List.cons_append, List.append_assoc, List.nil_append, base]
   rw [e, if_neg (by decide), if_pos trivial, if_pos ⟨by omega, e2⟩]
   simp
theorem zEd {l : Bs} (h : base l ≠ 0) : ∃ f rest, zF5 f ∧ l = f ++ rest ∧ base l = f.length := by
 cases l with
 | nil => exact absurd rfl h
 | cons c t =>
   unfold base at h ⊢
   simp only at h ⊢
   by_cases c1 : c = 73
   · subst c1
     exact ⟨[73], t, .inl rfl, rfl, by simp⟩
   · rw [if_neg c1] at h ⊢
     by_cases c2 : c = 76
     · subst c2
       rw [if_pos rfl] at h ⊢
       by_cases c3 : 0 < nl t ∧ t[nl t]? = some 59
       · rw [if_pos c3]
         obtain ⟨c3, c4⟩ := c3
         have hlt : nl t < t.length := by
          rcases Nat.lt_or_ge (nl t) t.length with h | h
          · exact h
          · rw [List.getElem?_eq_none h] at c4; cases c4
         have e : t = t.take (nl t) ++ 59 :: t.drop (nl t + 1) := by
          conv => lhs; rw [← List.take_append_drop (nl t) t]
          rw [List.drop_eq_getElem_cons hlt]
          rw [List.getElem?_eq_getElem hlt] at c4
          simp only [Option.some.injEq] at c4
          rw [c4]
         refine ⟨76 :: (t.take (nl t) ++ [59]), t.drop (nl t + 1), .inr ⟨_, zDw c3, rfl⟩, ?_, ?_⟩
         · conv => lhs; rw [e]
           simp
         · simp; omega
       · rw [if_neg c3] at h; exact absurd rfl h
     · rw [if_neg c2] at h; exact absurd rfl h
theorem zDu {g : Bs} (h : zF5 g) : ∃ c t, g = c :: t ∧ (c = 73 ∨ c = 76) := by
 rcases h with rfl | ⟨nm, _, rfl⟩
 · exact ⟨_, _, rfl, .inl rfl⟩
 · exact ⟨_, _, rfl, .inr rfl⟩
theorem zEj {g : Bs} (h : zF5 g) : 0 < g.length := by obtain ⟨c, t, rfl, _⟩ := zDu h; simp
theorem zHj {f : Bs} (h : Fld f) (rest : Bs) : flen (f ++ rest) = f.length := by
 rcases h with h | ⟨g, h, rfl⟩
 · have e := zH7 h rest
   obtain ⟨c, t, rfl, hc⟩ := zDu h
   rw [List.cons_append] at e ⊢
   unfold flen
   simp only
   rw [if_neg (by rcases hc with rfl | rfl <;> decide), e]
 · have e := zH7 h rest
   have hp := zEj h
   rw [List.cons_append]
   unfold flen
   simp only
   rw [if_pos trivial, e, if_neg (by omega)]
   simp
theorem zD5 {l : Bs} (h : flen l ≠ 0) : ∃ f rest, Fld f ∧ l = f ++ rest ∧ flen l = f.length := by
 cases l with
 | nil => exact absurd rfl h
 | cons c t =>
   unfold flen at h ⊢
   simp only at h ⊢
   by_cases c1 : c = 91
   · subst c1
     rw [if_pos rfl] at h ⊢
     by_cases c2 : base t = 0
     · rw [if_pos c2] at h; exact absurd rfl h
     · rw [if_neg c2]
       obtain ⟨f, r, h1, h2, h3⟩ := zEd c2
       exact ⟨91 :: f, r, .inr ⟨f, h1, rfl⟩, by rw [h2]; rfl, by rw [h3]; simp⟩
   · rw [if_neg c1] at h ⊢
     obtain ⟨f, r, h1, h2, h3⟩ := zEd h
     exact ⟨f, r, .inl h1, h2, h3⟩
theorem zG2 {f : Bs} (h : Fld f) : 0 < f.length := by
 rcases h with h | ⟨g, h, rfl⟩
 · exact zEj h
 · simp
theorem zEm {f : Bs} (h : zF5 f) : f.length ≤ 66 := by
 rcases h with rfl | ⟨nm, h, rfl⟩
 · simp
 · have := h.2.1; simp; omega
theorem zL1 {f : Bs} (h : Fld f) : f.length ≤ 67 := by
 rcases h with h | ⟨g, h, rfl⟩
 · have := zEm h; omega
 · have := zEm h; simp; omega
theorem zJf (l : Bs) : flen l ≤ l.length ∧ flen l ≤ 67 := by
 by_cases h : flen l = 0
 · omega
 · obtain ⟨f, r, h1, h2, h3⟩ := zD5 h
   have := zL1 h1
   refine ⟨?_, by omega⟩
   rw [h3, h2]; simp
theorem zEy (l : Bs) : Fld l ↔ 0 < flen l ∧ flen l = l.length := by
 constructor
 · intro h
   have := zHj h []
   rw [List.append_nil] at this
   have := zG2 h
   omega
 · rintro ⟨h1, h2⟩
   obtain ⟨f, r, h3, h4, h5⟩ := zD5 (l := l) (by omega)
   have : r = [] := by
    have := congrArg List.length h4
    rw [List.length_append] at this
    exact List.eq_nil_of_length_eq_zero (by omega)
   rw [h4, this, List.append_nil]; exact h3
theorem zEc {l : Bs} (h : flen l ≠ 0) : Fld (l.take (flen l)) := by
 obtain ⟨f, r, h3, h4, h5⟩ := zD5 h
 rw [h5, h4, List.take_left]; exact h3
def lead : Nat → Bs → List Bs × Bs
 | 0, l => ([], l)
 | m + 1, l => if flen l = 0 then ([], l) else (l.take (flen l) :: (lead m (l.drop (flen l))).1, (lead m (l.drop (flen l))).2)
theorem zD6 : ∀ (m : Nat) (ps : List Bs) (rest : Bs), (∀ p ∈ ps, Fld p) → ps.length ≤ m → (ps.length = m ∨ flen rest = 0) → lead m (ps.flatten ++ rest) = (ps, rest) := by
 intro m
 induction m with
 | zero => intro ps rest _ h _; obtain rfl : ps = [] := List.eq_nil_of_length_eq_zero (by omega); rfl
 | succ m ih =>
   intro ps rest hp hl hr
   cases ps with
   | nil =>
     rcases hr with h | h
     · simp at h
     · simp [lead, h]
   | cons p ps =>
     have hf := hp p (by simp)
     have e : flen ((p :: ps).flatten ++ rest) = p.length := by rw [List.flatten_cons, List.append_assoc]; exact zHj hf _
     have hpos := zG2 hf
     have ih' := ih ps rest (fun q hq => hp q (by simp [hq])) (by simpa using hl) (by simpa using hr)
     unfold lead
     rw [e, if_neg (by omega), List.flatten_cons, List.append_assoc, List.take_left, List.drop_left, ih']
theorem zGm : ∀ (m : Nat) (l : Bs), (∀ p ∈ (lead m l).1, Fld p) ∧ (lead m l).1.length ≤ m ∧ l = (lead m l).1.flatten ++ (lead m l).2 ∧ ((lead m l).1.length = m ∨ flen (lead m l).2 = 0) := by
 intro m
 induction m with
 | zero => intro l; simp [lead]
 | succ m ih =>
   intro l
   unfold lead
   by_cases h : flen l = 0
   · rw [if_pos h]; simp [h]
   · rw [if_neg h]
     obtain ⟨h1, h2, h3, h4⟩ := ih (l.drop (flen l))
     refine ⟨?_, by simpa using h2, ?_, by simpa using h4⟩
     · intro p hp
       rcases List.mem_cons.1 hp with rfl | hp
       · exact zEc h
       · exact h1 p hp
     · show l = (_ :: _).flatten ++ _
       rw [List.flatten_cons, List.append_assoc, ← h3, List.take_append_drop]
def meth (l : Bs) : Option (List Bs × Bs) :=
 match l with
 | [] => none
 | c :: t => if c = 40 then
     (match (lead 8 t).2 with
      | [] => none
      | d :: r => if d = 41 then (if r = [86] ∨ (0 < flen r ∧ flen r = r.length) then some ((lead 8 t).1, r) else none) else none)
  else none
def Meth (l : Bs) (ps : List Bs) (r : Bs) : Prop := l = 40 :: (ps.flatten ++ 41 :: r) ∧ (∀ p ∈ ps, Fld p) ∧ ps.length ≤ 8 ∧ (r = [86] ∨ Fld r)
theorem zCy (r : Bs) : flen (41 :: r) = 0 := by simp [flen, base]
theorem zHf {l : Bs} {ps : List Bs} {r : Bs} (h : Meth l ps r) : meth l = some (ps, r) := by
 obtain ⟨rfl, h1, h2, h3⟩ := h
 have e := zD6 8 ps (41 :: r) h1 h2 (.inr (zCy r))
 unfold meth
 simp only
 rw [if_pos trivial, e]
 simp only
 rw [if_pos trivial, if_pos]
 rcases h3 with h3 | h3
 · exact .inl h3
 · exact .inr ((zEy r).1 h3)
theorem zGv {l : Bs} {ps : List Bs} {r : Bs} (h : meth l = some (ps, r)) : Meth l ps r := by
 unfold meth at h
 split at h
 · cases h
 · rename_i c t
   split at h
   · rename_i hc
     subst hc
     obtain ⟨h1, h2, h3, h4⟩ := zGm 8 t
     split at h
     · cases h
     · rename_i d r' he
       split at h
       · rename_i hd
         subst hd
         split at h
         · rename_i hr
           simp only [Option.some.injEq, Prod.mk.injEq] at h
           obtain ⟨rfl, rfl⟩ := h
           refine ⟨?_, h1, h2, ?_⟩
           · rw [← he, ← h3]
           · rcases hr with hr | hr
             · exact .inl hr
             · exact .inr ((zEy _).2 hr)
         · cases h
       · cases h
   · cases h
end Go.Proofs.YtpehimfnkmepnaaGreat.Q.D
