/- The document's own reading of a pool: what is needed of its Reader; Within. -/
import Derived.Test.YtjnaiekdbigikaaDoorPQ
import Derived.Test.YtjnaiekdbigikaaDoorRfS
import Derived.Test.YtjnaiekdbigikaaDoorRR
namespace Go.Proofs.YtjnaiekdbigikaaDoor
open Go.RowKit

theorem tmod_pos (n m : Int) (h : 0 < m) : -m < n.tmod m ∧ n.tmod m < m := by
  have h1 := Int.tmod_lt_of_pos n h
  have h2 := Int.lt_tmod_of_pos n h
  omega

set_option maxRecDepth 8000 in
set_option maxHeartbeats 1000000 in
theorem within_any (n : Int) (hi : Nat) (hm : hi ≤ 1099511627776) (w : World) :
    Calls Tryd.prog 25 #[.int .i64 n, .int .i64 0, .int .i64 (hi : Int)] w fun e w' => (∃ k : Nat, k ≤ hi ∧ e = .returned (.int .i64 (k : Int))) ∧ w' = w := by
  have hf := tmod_pos n ((hi : Int) + 1) (by omega)
  obtain ⟨h1, h2⟩ := hf
  have e2 : ¬ (hi : Int) + 1 = 0 := by omega
  by_cases hc : n.tmod ((hi : Int) + 1) < 0
  · go_enter Tryd.func25, Tryd.ntmps25
    go_wp2
    go_ret
    refine ⟨⟨(n.tmod ((hi : Int) + 1) + hi + 1).toNat, by omega, ?_⟩, rfl⟩
    refine D.ret_int ?_
    omega
  · go_enter Tryd.func25, Tryd.ntmps25
    go_wp2
    go_ret
    refine ⟨⟨(n.tmod ((hi : Int) + 1)).toNat, by omega, ?_⟩, rfl⟩
    refine D.ret_int ?_
    omega

theorem IsS.view {pr : Nat} {w : World} {v : Value} {l : List Int} {a : Nat} {y : Int} (h : IsS pr w v l a y) : View w v l := by
  rcases h with ⟨_, h⟩ | ⟨_, _, h⟩
  · exact h.view
  · exact h.view
theorem IsS.lt {pr : Nat} {w : World} {v : Value} {l : List Int} {a : Nat} {y : Int} (h : IsS pr w v l a y) : pr < w.heap.size := by
  rcases h with ⟨_, h⟩ | ⟨_, _, h⟩
  · exact h.lt
  · exact h.lt
theorem IsS.flag {pr : Nat} {w : World} {v : Value} {l : List Int} {a : Nat} {y : Int} (h : IsS pr w v l a y) : w.cell? ⟨pr, 2, none⟩ = some (.bool (decide (y ≠ 0))) := by
  rcases h with ⟨e, h⟩ | ⟨e, _, h⟩
  · rw [h.c2, e]; rfl
  · rw [h.c2, decide_eq_true e]
theorem IsS.put {pr pc o : Nat} {w0 w : World} {v : Value} {l : List Int} {a0 a : Nat} {y0 y : Int} {u : Value} (h0 : IsS pr w0 v l a0 y0) (ho : Only pr w0 w) (h : IsS pr w v l a y) (hp : w0.heap.size ≤ pc) : IsS pr (w.setCell ⟨pc, o, none⟩ u) v l a y := by
  have hlt := h0.lt
  have hb : (w.setCell ⟨pc, o, none⟩ u).heap[pr]? = w.heap[pr]? := Below.heap_setCell _ _ _ _ (fun e => by simp only at e; omega)
  have mv : ∀ {t' : Nat} {f' : Bool} {y' z' : Int}, IsB pr w v l t' f' y' z' → IsB pr (w.setCell ⟨pc, o, none⟩ u) v l t' f' y' z' := by
    intro t' f' y' z' hB
    rcases h0 with ⟨_, h0⟩ | ⟨_, _, h0⟩
    · exact h0.move (ho.put hp) (hb.trans hB.blk) hB.le
    · exact h0.move (ho.put hp) (hb.trans hB.blk) hB.le
  rcases h with ⟨e, h⟩ | ⟨e, t, h⟩
  · exact .inl ⟨e, mv h⟩
  · exact .inr ⟨e, t, mv h⟩
theorem IsS.drewN {pr : Nat} {w : World} {v : Value} {l : List Int} {a : Nat} {y : Int} (h : IsS pr w v l a y) (q : Nat) : IsS pr (w.drewN q) v l a y := by
  rcases h with ⟨e, h⟩ | ⟨e, t, h⟩
  · exact .inl ⟨e, h.blk, h.view, h.le⟩
  · exact .inr ⟨e, t, h.blk, h.view, h.le⟩
theorem snum1 (pr : Nat) (v : Value) (l : List Int) (a : Nat) (y : Int) (w : World) (h : IsS pr w v l a y) (hlen : l.length ≤ 140737488351232) :
    Calls Tryd.prog 53 #[.pointer (some ⟨pr, 0, none⟩), .int .i64 1] w fun e w' => e = .returned (.int .i64 (beVal (tk l a y 1).1)) ∧ IsS pr w' v l (tk l a y 1).2.1 (tk l a y 1).2.2 ∧ Only pr w w' := by
  have hby : AllBytes l := by obtain ⟨_, _, _, _, _, h, _⟩ := h.view; exact h
  have h1 := refrnum_any pr v l a y 1 w h hlen
  rw [show min (max (1 : Int) 1) 8 = 1 by decide] at h1
  have hbv := beVal_one (tk l a y 1).1 (tk_bytes _ _ _ _ hby) (by have := (tk_len l a y 1).1; omega)
  rwa [show IntKind.i64.wrap (beVal (tk l a y 1).1) = beVal (tk l a y 1).1 from wraps_small _ (by omega) (by omega)] at h1
theorem snum4 (pr : Nat) (v : Value) (l : List Int) (a : Nat) (y : Int) (w : World) (h : IsS pr w v l a y) (hlen : l.length ≤ 140737488351232) :
    Calls Tryd.prog 53 #[.pointer (some ⟨pr, 0, none⟩), .int .i64 4] w fun e w' => e = .returned (.int .i64 (beVal (tk l a y 4).1)) ∧ IsS pr w' v l (tk l a y 4).2.1 (tk l a y 4).2.2 ∧ Only pr w w' := by
  have hby : AllBytes l := by obtain ⟨_, _, _, _, _, h, _⟩ := h.view; exact h
  have h1 := refrnum_any pr v l a y 4 w h hlen
  rw [show min (max (4 : Int) 1) 8 = 4 by decide] at h1
  have hbv := beVal_four (tk l a y 4).1 (tk_bytes _ _ _ _ hby) (by have := (tk_len l a y 4).1; omega)
  rwa [show IntKind.i64.wrap (beVal (tk l a y 4).1) = beVal (tk l a y 4).1 from wraps_small _ (by omega) (by omega)] at h1
theorem snum2 (pr : Nat) (v : Value) (l : List Int) (a : Nat) (y : Int) (w : World) (h : IsS pr w v l a y) (hlen : l.length ≤ 140737488351232) :
    Calls Tryd.prog 53 #[.pointer (some ⟨pr, 0, none⟩), .int .i64 2] w fun e w' => e = .returned (.int .i64 (beVal (tk l a y 2).1)) ∧ IsS pr w' v l (tk l a y 2).2.1 (tk l a y 2).2.2 ∧ Only pr w w' := by
  have hby : AllBytes l := by obtain ⟨_, _, _, _, _, h, _⟩ := h.view; exact h
  have h1 := refrnum_any pr v l a y 2 w h hlen
  rw [show min (max (2 : Int) 1) 8 = 2 by decide] at h1
  have hbv := beVal_two (tk l a y 2).1 (tk_bytes _ _ _ _ hby) (by have := (tk_len l a y 2).1; omega)
  rwa [show IntKind.i64.wrap (beVal (tk l a y 2).1) = beVal (tk l a y 2).1 from wraps_small _ (by omega) (by omega)] at h1
theorem rdC_small (l : List Int) (a : Nat) (y : Int) (hb : AllBytes l) : (rdC l a y).Small := by
  have key : ∀ kind n ts, (∀ s ∈ ts, ByteArray.size s ≤ 262140) → (mkC kind n ts).Small := fun kind n ts h =>
    ⟨by have := tx_small h 0; unfold tx at this; show ((ts[0]?).getD eS).size ≤ _; omega, by have := tx_small h 1; unfold tx at this; show ((ts[1]?).getD eS).size ≤ _; omega, by have := tx_small h 2; unfold tx at this; show ((ts[2]?).getD eS).size ≤ _; omega⟩
  unfold rdC
  split
  · exact key _ _ _ (rT_small l hb _ _ _)
  · exact key _ _ _ (by simp)
end Go.Proofs.YtjnaiekdbigikaaDoor
