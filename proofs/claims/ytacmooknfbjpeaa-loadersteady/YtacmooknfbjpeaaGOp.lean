/- How lists of structs that came in are seen by the walks: no heap. -/
import Derived.Test.YtacmooknfbjpeaaGA
import Derived.Test.YtacmooknfbjpeaaRows
import Derived.ProofKit
import Derived.OpenShut
import Derived.SliceStrings
import Derived.Deep.Grids
import Derived.Lib.LaidU8
import Derived.ChangeOld
namespace Go.Proofs.Ytacmooknfbjpeaa.J
open Go.ChangeShapes Go.WideShapes Go.ChangeAt Go.RowKit Go.Deep

def RowsAt (k : Nat) (w : World) (ao : Option Addr) (n : Nat) (rows : Nat → List Value) : Prop :=
  0 < n → ∃ b off, ao = some ⟨b, off, none⟩ ∧ b < w.heap.size ∧ ∀ j, j < n → ∀ i v, (rows j)[i]? = some v → w.cell? ⟨b, off + j * k + i, none⟩ = some v
theorem RowsAt.below {k n : Nat} {w w' : World} {ao : Option Addr} {rows : Nat → List Value} (h : RowsAt k w ao n rows) (hb : Below w.heap.size w w') : RowsAt k w' ao n rows := by
  intro hn
  obtain ⟨b, off, e, hlt, hc⟩ := h hn
  exact ⟨b, off, e, Nat.lt_of_lt_of_le hlt hb.size, fun j hj i v hv => by rw [hb.cell (p := ⟨b, off + j * k + i, none⟩) hlt]; exact hc j hj i v hv⟩
/-- A list lies behind a slice: one row of k cells for each. -/
def RLat {α : Type} (k : Nat) (R : World → List Value → α → Prop) (w : World) (ao : Option Addr) (c : Nat) (l : List α) : Prop :=
  l.length ≤ c ∧ c ≤ maxLen ∧ ∃ rows, RowsAt k w ao l.length rows ∧ ∀ i x, l[i]? = some x → R w (rows i) x
theorem RLat.below {α : Type} {k : Nat} {R : World → List Value → α → Prop} {w w' : World} {ao : Option Addr} {c : Nat} {l : List α} (h : RLat k R w ao c l) (hb : Below w.heap.size w w') (hR : ∀ r x, R w r x → R w' r x) : RLat k R w' ao c l := by
  obtain ⟨h1, h2, rows, h3, h4⟩ := h
  exact ⟨h1, h2, rows, h3.below hb, fun i x hx => hR _ _ (h4 i x hx)⟩
theorem RLat.nil {α : Type} (k : Nat) (R : World → List Value → α → Prop) (w : World) (ao : Option Addr) (c : Nat) (h : c ≤ maxLen) : RLat k R w ao c [] :=
  ⟨Nat.zero_le _, h, fun _ => [], fun hn => absurd hn (by simp), fun i x hx => by simp at hx⟩
theorem addr_add (g off j : Nat) : (⟨g, off, none⟩ : Addr).add j = ⟨g, off + j, none⟩ := by unfold Addr.add; split <;> simp_all
theorem cells3 : Try.prog.cellsOf 3 = 1 := by kernel_rfl
theorem cell_lt {W : World} {b o : Nat} {u : Value} (h : W.cell? ⟨b, o, none⟩ = some u) : b < W.heap.size := by
  apply Nat.lt_of_not_le
  intro hle
  have hn : W.heap[b]? = none := Array.getElem?_eq_none (by omega)
  simp [World.cell?, hn] at h
set_option maxRecDepth 20000 in
/-- A slice that was read: its list, if each of its rows is one's. -/
theorem trod_list {α : Type} {ST T k : Nat} {R : World → List Value → α → Prop} (hu : Try.prog.underlying ST = some (.slice T)) (hk : Try.prog.cellsOf T = k) (hk0 : 0 < k) {H : Type} {enc : TypeId × Value → H} {W : World} {fuel : Nat} {cs : List Value} {y : DataW H × List MemPlace}
    (one : ∀ (n : Nat) (cs' : List Value) (y' : DataW H × List MemPlace), DataW.trod enc Try.prog W 0 (fun _ => true) true n T cs' = some y' → ∃ x : α, R W cs' x)
    (ht : DataW.trod enc Try.prog W 0 (fun _ => true) true fuel ST cs = some y) : ∃ ao cap l, cs = [.slice ao (List.length l) cap] ∧ RLat k R W ao cap l := by
  rcases DataW.trod_slice hu ht with ⟨rfl, _⟩ | ⟨a, len, cap, elems, rest, n, _, rfl, _, _, hl, hm, hlen, hev, _, _⟩
  · exact ⟨none, 0, [], rfl, RLat.nil _ _ _ _ _ (Nat.zero_le _)⟩
  · by_cases h0 : len = 0
    · subst h0
      exact ⟨some a, cap, [], rfl, RLat.nil _ _ _ _ _ hm⟩
    · obtain ⟨b, o, sp⟩ := a
      rw [hk] at hev
      have hsp : sp = none := by
        have h1 := hev 0 (by omega)
        rw [List.getElem?_eq_getElem (by omega)] at h1
        obtain ⟨cs, hcs, _⟩ := Option.bind_eq_some_iff.1 h1
        unfold World.cells? at hcs
        rw [if_pos (Nat.zero_le _)] at hcs
        obtain ⟨q, _, hq⟩ := Lib.mapM_at hcs 0 0 (by rw [List.getElem?_range hk0])
        have e : ((⟨b, o, sp⟩ : Addr).add (0 * k)).add 0 = ⟨b, o, sp⟩ := by simp [Addr.add]
        rw [e] at hq
        exact cell_spot hq
      subst hsp
      have hone : ∀ i, i < len → ∃ p : List Value × α, R W p.1 p.2 ∧ ∀ j u, p.1[j]? = some u → W.cell? ⟨b, o + i * k + j, none⟩ = some u := by
        intro i hi
        have h1 := hev i hi
        rw [List.getElem?_eq_getElem (by omega), addr_add] at h1
        obtain ⟨cs, hcs, h2⟩ := Option.bind_eq_some_iff.1 h1
        obtain ⟨x, hx⟩ := one _ _ _ h2
        refine ⟨(cs, x), hx, fun j u hj => ?_⟩
        unfold World.cells? at hcs
        rw [if_pos (Nat.zero_le _)] at hcs
        have hjk : j < k := by
          have h3 := (List.getElem?_eq_some_iff.1 hj).1
          have h4 := Lib.mapM_length hcs
          simp only at h3
          simpa [h4] using h3
        obtain ⟨q, hq, hf⟩ := Lib.mapM_at hcs j j (by rw [List.getElem?_range hjk])
        simp only at hj
        rw [hq] at hj
        cases hj
        rwa [addr_add] at hf
      have hch : ∃ f : Nat → List Value × α, ∀ i, i < len → R W (f i).1 (f i).2 ∧ ∀ j u, (f i).1[j]? = some u → W.cell? ⟨b, o + i * k + j, none⟩ = some u :=
        ⟨fun i => if h : i < len then Classical.choose (hone i h) else Classical.choose (hone 0 (by omega)), fun i hi => by
          simp only [dif_pos hi]; exact Classical.choose_spec (hone i hi)⟩
      obtain ⟨f, hf⟩ := hch
      have hb : b < W.heap.size := by
        have h1 := hev 0 (by omega)
        rw [List.getElem?_eq_getElem (by omega), addr_add] at h1
        obtain ⟨cs, hcs, _⟩ := Option.bind_eq_some_iff.1 h1
        unfold World.cells? at hcs
        rw [if_pos (Nat.zero_le _)] at hcs
        obtain ⟨q, _, hq⟩ := Lib.mapM_at hcs 0 0 (by rw [List.getElem?_range hk0])
        rw [addr_add] at hq
        exact cell_lt hq
      refine ⟨some ⟨b, o, none⟩, cap, (List.range len).map (fun i => (f i).2), by simp, by simpa using hl, hm, fun i => (f i).1, fun _ => ⟨b, o, rfl, hb, fun j hj => (hf j (by simpa using hj)).2⟩, fun i x hx => ?_⟩
      simp only [List.getElem?_map, Option.map_eq_some_iff] at hx
      obtain ⟨j, hj, rfl⟩ := hx
      have hil : i < len := by have := (List.getElem?_eq_some_iff.1 hj).1; simpa using this
      rw [List.getElem?_range hil] at hj
      cases hj
      exact (hf i hil).1
end Go.Proofs.Ytacmooknfbjpeaa.J
