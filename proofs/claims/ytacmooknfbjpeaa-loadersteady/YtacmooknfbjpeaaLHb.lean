/- slices.Backward over a list of wishes: what it hands over. -/
import Derived.Test.YtacmooknfbjpeaaLFn
import Derived.RangeFuncNested
import Derived.RangeFuncBound
import Derived.RangeFuncCalls
import Derived.RangeFuncLeaves
import Derived.Shelf.Abstract
import Derived.Shelf.RegionOpen
import Derived.OwnWalkIn
import Derived.TacticsInMore
import Derived.LoopNIn
import Derived.LoopIn
namespace Go.Proofs.Ytacmooknfbjpeaa.J
open Go.RowKit Go.MapKept Go.ChangeMaps Go.Shelf
attribute [local go_sem] Oper.semAt_some
set_option linter.unusedVariables false

theorem wiC_at : ∀ (l : List Wi) (i : Nat) (x : Wi) (j : Nat), l[i]? = some x → j < 3 → (wiC l)[i * 3 + j]? = (wiR x)[j]?
  | [], i, x, j, h, hj => by simp at h
  | y :: l, 0, x, j, h, hj => by
    simp only [List.getElem?_cons_zero, Option.some.injEq] at h
    subst h
    simp only [wiC, Nat.zero_mul, Nat.zero_add]
    rw [List.getElem?_append_left (by simp [wiR]; omega)]
  | y :: l, i + 1, x, j, h, hj => by
    simp only [wiC]
    rw [List.getElem?_append_right (by simp [wiR]; omega), show (i + 1) * 3 + j - (wiR y).length = i * 3 + j by simp only [wiR, List.length_cons, List.length_nil]; omega, wiC_at l i x j (by simpa using h) hj]
theorem wiC_len : ∀ l : List Wi, (wiC l).length = l.length * 3
  | [] => rfl
  | x :: l => by simp only [wiC, List.length_append, wiC_len l, List.length_cons, wiR, List.length_nil]; omega
/-- What has come behind k rounds. -/
def comeB {β : Type} (zs : List β) : Nat → List (Nat × β)
  | 0 => []
  | k + 1 => match zs.reverse[k]? with
    | some x => comeB zs k ++ [(zs.length - 1 - k, x)]
    | none => comeB zs k
theorem comeB_succ {β : Type} (zs : List β) {k : Nat} {x : β} (h : zs.reverse[k]? = some x) : comeB zs (k + 1) = comeB zs k ++ [(zs.length - 1 - k, x)] := by
  show (match zs.reverse[k]? with | some x => comeB zs k ++ [(zs.length - 1 - k, x)] | none => comeB zs k) = _
  rw [h]
theorem comeB_snd {β : Type} (zs : List β) : ∀ k, k ≤ zs.length → (comeB zs k).map (·.2) = zs.reverse.take k
  | 0, _ => rfl
  | k + 1, hk => by
    have h2 : k < zs.reverse.length := by rw [List.length_reverse]; omega
    have h3 := List.getElem?_eq_getElem h2
    rw [comeB_succ zs h3, List.map_append, comeB_snd zs k (by omega), take_snoc h3]
    rfl
theorem comeB_len {β : Type} (zs : List β) {k : Nat} (hk : k ≤ zs.length) : (comeB zs k).length = k := by
  have := congrArg List.length (comeB_snd zs k hk)
  rw [List.length_map, List.length_take, List.length_reverse] at this
  omega
def KpB (p : Nat → Prop) (W W' : World) : Prop := ∀ b, p b → W'.heap[b]? = W.heap[b]?
theorem KpB.refl (p : Nat → Prop) (W : World) : KpB p W W := fun _ _ => rfl
theorem KpB.trans {p : Nat → Prop} {A B C : World} (h : KpB p A B) (k : KpB p B C) : KpB p A C := fun b hb => (k b hb).trans (h b hb)
def encB {P : Wi → Prop} (x : Nat × { x : Wi // P x }) : Array Value := #[.int .i64 (x.1 : Int), .agg #[.string x.2.1.nm, .int .i64 (x.2.1.fi : Int), .int .i64 (x.2.1.dn : Int)]]
set_option maxRecDepth 100000 in
set_option maxHeartbeats 2000000 in
theorem back1_in (F : Fence) (n : Nat) (h42 : F.fn 42) (hro : F.round = none) (hn : 1 ≤ n) (l Bs B0 : Nat) (v : Value) {P : Wi → Prop} (zs : List { x : Wi // P x }) (hlen : zs.length ≤ 100000) (p : Nat → Prop) (hpB : p Bs) (hpv : ∀ b, v.ownBlock = some b → p b) (J Jx : List (Nat × { x : Wi // P x }) → World → Prop)
    (hY : ∀ pre x W, J pre W → pre.length < zs.length → YieldAt F (n - 1) Try.prog l (encB x) W fun e W' =>
      (e = .returned (.bool true) ∧ J (pre ++ [x]) W' ∧ KpB p W W') ∨ (e = .returned (.bool false) ∧ Jx (pre ++ [x]) W'))
    (W : World) (hBs : W.cell? ⟨Bs, 0, none⟩ = some v) (hO : W.ownsRow B0 75 3 v zs.length (wiC (zs.map (·.1)))) (h0 : J [] W) :
    CallsIn F n Try.prog 42 #[.func (.yield l) #[] #[], .pointer (some ⟨Bs, 0, none⟩)] W fun e W' => (∃ v, e = .returned v) ∧
      ((∃ ys, ys = comeB zs zs.length ∧ J ys W') ∨ (∃ pre, (∃ k, k ≤ zs.length ∧ pre = comeB zs k) ∧ Jx pre W')) := by
  obtain ⟨ao, cap, rfl⟩ := own_slice hO
  refine callsIn_of_wp Try.func42 rfl h42 ?_ hro
  simp only [Try.ntmps42, List.size_toArray, List.length_cons, List.length_nil, Nat.reduceAdd, Nat.reduceSub, Array.replicate_succ, Array.replicate_zero, List.push_toArray, List.append_toArray, List.nil_append, List.cons_append]
  gi_wp2
  gi_loopw [3] (fun i wr => ∃ k : Nat, k ≤ zs.length ∧ i = .int .i64 ((zs.length : Int) - 1 - k) ∧ J (comeB zs k) wr ∧ KpB p W wr)
    (fun i _ => (intOf i + 1).toNat)
  case atStart => exact ⟨0, Nat.zero_le _, by simp, h0, KpB.refl _ _⟩
  case round =>
    obtain ⟨k, hk, rfl, hJs, hnx⟩ := hrel
    have hBs' : wr.cell? ⟨Bs, 0, none⟩ = some (.slice ao zs.length cap) := (World.cell?_of_block (hnx Bs hpB)).trans hBs
    have hOr := own_kept hO fun b e => hnx b (hpv b e)
    by_cases hlt : k < zs.length
    · have hj0 : (zs.reverse)[k]? = zs[zs.length - 1 - k]? := by rw [List.getElem?_reverse hlt]
      obtain ⟨j, hj⟩ : ∃ j, zs.length - 1 - k = j := ⟨_, rfl⟩
      rw [hj] at hj0
      have hj2 : (zs.length : Int) - 1 - k = (j : Int) := by omega
      have hjl : j < zs.length := by omega
      obtain ⟨x, hx⟩ : ∃ x, zs[j]? = some x := ⟨_, List.getElem?_eq_getElem hjl⟩
      rw [hx] at hj0
      have hxm : (zs.map (·.1))[j]? = some x.1 := by rw [List.getElem?_map, hx]; rfl
      have c0 := wiC_at _ j x.1 0 hxm (by omega)
      have c1 := wiC_at _ j x.1 1 hxm (by omega)
      have c2 := wiC_at _ j x.1 2 hxm (by omega)
      obtain ⟨g, rfl, -, -, d0, -⟩ := own_cellk hOr c0
      obtain ⟨_, e1, -, -, d1, -⟩ := own_cellk hOr c1
      obtain ⟨_, e2, -, -, d2, -⟩ := own_cellk hOr c2
      cases e1
      cases e2
      have hcm : comeB zs (k + 1) = comeB zs k ++ [(j, x)] := by rw [comeB_succ zs hj0, hj]
      obtain ⟨fn, tmps, assign, body, hy, hR⟩ := hY _ (j, x) wr hJs (by rw [comeB_len zs hk]; exact hlt)
      dsimp only [encB] at hy
      rw [Nat.add_zero] at d0
      rw [hj2]
      have hjl' : (j : Int) < (zs.length : Int) := by omega
      have hj0' : (0 : Int) ≤ (j : Int) := by omega
      gi_wp2
      refine hR.mono ?_
      rintro e W3 (⟨rfl, hJ3, hk3⟩ | ⟨rfl, hJx3⟩)
      · gi_wp2
        go_roundw
        case rel => exact ⟨k + 1, by omega, by go_num, by rw [hcm]; exact hJ3, hnx.trans hk3⟩
        case measure => simp [intOf] <;> omega
      · gi_wp2
        refine bodyPost_ret (results_none rfl _ _ _) rfl ?_
        exact ⟨⟨_, rfl⟩, .inr ⟨_, ⟨k + 1, by omega, hcm.symm⟩, hJx3⟩⟩
    · obtain rfl : k = zs.length := by omega
      have : ¬ (0 : Int) ≤ (zs.length : Int) - 1 - zs.length := by omega
      gi_wp2
      go_end0
      first | exact ⟨⟨_, rfl⟩, .inl ⟨_, rfl, hJs⟩⟩ | exact ⟨⟨_, rfl⟩, .inl hJs⟩
set_option maxHeartbeats 1000000 in
theorem back_in (F : Fence) (n : Nat) (h29 : F.fn 29) (hro : F.round = none) (a : Option Addr) (len cap : Nat) (w : World) :
    CallsIn F n Try.prog 29 #[.slice a len cap] w fun e w' => e = .returned (.func (.func 42) #[] #[.pointer (some ⟨w.heap.size, 0, none⟩)]) ∧ w' = w.alloc (.cells #[.slice a len cap] 68) := by
  refine callsIn_of_wp Try.func29 rfl h29 ?_ hro
  simp only [Try.ntmps29, List.size_toArray, List.length_cons, List.length_nil, Nat.reduceAdd, Nat.reduceSub, Array.replicate_succ, Array.replicate_zero, List.push_toArray, List.append_toArray, List.nil_append, List.cons_append]
  gi_wp2
  go_ret
  exact ⟨rfl, rfl⟩
theorem back_stops (F : Fence) (n : Nat) (h42 : F.fn 42) (hro : F.round = none) (hn : 1 ≤ n) (Bs B0 : Nat) (v : Value) {P : Wi → Prop} (zs : List { x : Wi // P x }) (hlen : zs.length ≤ 100000) (p : Nat → Prop) (hpB : p Bs) (hpv : ∀ b, v.ownBlock = some b → p b) (w : World) (hBs : Bs < w.heap.size) (hc : w.cell? ⟨Bs, 0, none⟩ = some v) (hO : w.ownsRow B0 75 3 v zs.length (wiC (zs.map (·.1)))) :
    SeqStopsK F n Try.prog 42 #[.pointer (some ⟨Bs, 0, none⟩)] encB (KpB p) (fun ys => ys = comeB zs zs.length) (fun pre => ∃ k, k ≤ zs.length ∧ pre = comeB zs k) zs.length w := fun l J Jx W hW _ _ hY h0 =>
  back1_in F n h42 hro hn l Bs B0 v zs hlen p hpB hpv J Jx hY W ((hW.cell (p := ⟨Bs, 0, none⟩) hBs).trans hc) (own_below hO hW) h0
end Go.Proofs.Ytacmooknfbjpeaa.J
