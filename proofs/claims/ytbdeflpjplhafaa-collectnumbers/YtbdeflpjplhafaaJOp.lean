/- How lists of numbers and of truths that came in are seen by the walks. -/
import Derived.Test.YtbdeflpjplhafaaJK
import Derived.Test.YtbdeflpjplhafaaRows
import Derived.ProofKit
import Derived.OpenShut
import Derived.SliceStrings
import Derived.Deep.Grids
import Derived.Lib.LaidU8
import Derived.ChangeOld
namespace Go.Proofs.Ytbdeflpjplhafaa.J
open Go.ChangeShapes Go.WideShapes Go.ChangeAt Go.RowKit Go.Deep

def RowsAt (k : Nat) (w : World) (ao : Option Addr) (n : Nat) (rows : Nat → List Value) : Prop :=
  0 < n → ∃ b off, ao = some ⟨b, off, none⟩ ∧ b < w.heap.size ∧ ∀ j, j < n → ∀ i v, (rows j)[i]? = some v → w.cell? ⟨b, off + j * k + i, none⟩ = some v
theorem RowsAt.below {k n : Nat} {w w' : World} {ao : Option Addr} {rows : Nat → List Value} (h : RowsAt k w ao n rows) (hb : Below w.heap.size w w') : RowsAt k w' ao n rows := by
  intro hn
  obtain ⟨b, off, e, hlt, hc⟩ := h hn
  exact ⟨b, off, e, Nat.lt_of_lt_of_le hlt hb.size, fun j hj i v hv => by rw [hb.cell (p := ⟨b, off + j * k + i, none⟩) hlt]; exact hc j hj i v hv⟩
/-- A list lies behind a slice: one row of k cells for each. -/
def LAt {α : Type} (k : Nat) (R : World → List Value → α → Prop) (w : World) (ao : Option Addr) (c : Nat) (l : List α) : Prop :=
  l.length ≤ c ∧ c ≤ maxLen ∧ ∃ rows, RowsAt k w ao l.length rows ∧ ∀ i x, l[i]? = some x → R w (rows i) x
theorem LAt.below {α : Type} {k : Nat} {R : World → List Value → α → Prop} {w w' : World} {ao : Option Addr} {c : Nat} {l : List α} (h : LAt k R w ao c l) (hb : Below w.heap.size w w') (hR : ∀ r x, R w r x → R w' r x) : LAt k R w' ao c l := by
  obtain ⟨h1, h2, rows, h3, h4⟩ := h
  exact ⟨h1, h2, rows, h3.below hb, fun i x hx => hR _ _ (h4 i x hx)⟩
theorem LAt.nil {α : Type} (k : Nat) (R : World → List Value → α → Prop) (w : World) (ao : Option Addr) (c : Nat) (h : c ≤ maxLen) : LAt k R w ao c [] :=
  ⟨Nat.zero_le _, h, fun _ => [], fun hn => absurd hn (by simp), fun i x hx => by simp at hx⟩
theorem addr_add (g off j : Nat) : (⟨g, off, none⟩ : Addr).add j = ⟨g, off + j, none⟩ := by unfold Addr.add; split <;> simp_all
theorem cells3 : Try.prog.cellsOf 3 = 1 := by kernel_rfl
theorem cell_lt {W : World} {b o : Nat} {u : Value} (h : W.cell? ⟨b, o, none⟩ = some u) : b < W.heap.size := by
  apply Nat.lt_of_not_le
  intro hle
  have hn : W.heap[b]? = none := Array.getElem?_eq_none (by omega)
  simp [World.cell?, hn] at h
set_option maxRecDepth 20000 in
/-- A slice that was read: its list, if each of its rows is one's. -/
theorem trod_list {α : Type} {ST T k : Nat} {R : World → List Value → α → Prop} (hu : Try.prog.underlying ST = some (.slice T)) (hk : Try.prog.cellsOf T = k) (hk0 : 0 < k) {H : Type} {enc : TypeId × Value → H} {W : World} {fuel : Nat} {cs : List Value} {y : DataW H × List MemPlace}
    (one : ∀ (n : Nat) (cs' : List Value) (y' : DataW H × List MemPlace), DataW.trod enc Try.prog W 0 (fun _ => true) true n T cs' = some y' → ∃ x : α, R W cs' x)
    (ht : DataW.trod enc Try.prog W 0 (fun _ => true) true fuel ST cs = some y) : ∃ ao cap l, cs = [.slice ao (List.length l) cap] ∧ LAt k R W ao cap l := by
  rcases DataW.trod_slice hu ht with ⟨rfl, _⟩ | ⟨a, len, cap, elems, rest, n, _, rfl, _, _, hl, hm, hlen, hev, _, _⟩
  · exact ⟨none, 0, [], rfl, LAt.nil _ _ _ _ _ (Nat.zero_le _)⟩
  · by_cases h0 : len = 0
    · subst h0
      exact ⟨some a, cap, [], rfl, LAt.nil _ _ _ _ _ hm⟩
    · obtain ⟨b, o, sp⟩ := a
      rw [hk] at hev
      have hsp : sp = none := by
        have h1 := hev 0 (by omega)
        rw [List.getElem?_eq_getElem (by omega)] at h1
        obtain ⟨cs, hcs, _⟩ := Option.bind_eq_some_iff.1 h1
        unfold World.cells? at hcs
        rw [if_pos (Nat.zero_le _)] at hcs
        obtain ⟨q, _, hq⟩ := Lib.mapM_at hcs 0 0 (by rw [List.getElem?_range hk0])
        have e : ((⟨b, o, sp⟩ : Addr).add (0 * k)).add 0 = ⟨b, o, sp⟩ := by simp [Addr.add]
        rw [e] at hq
        exact cell_spot hq
      subst hsp
      have hone : ∀ i, i < len → ∃ p : List Value × α, R W p.1 p.2 ∧ ∀ j u, p.1[j]? = some u → W.cell? ⟨b, o + i * k + j, none⟩ = some u := by
        intro i hi
        have h1 := hev i hi
        rw [List.getElem?_eq_getElem (by omega), addr_add] at h1
        obtain ⟨cs, hcs, h2⟩ := Option.bind_eq_some_iff.1 h1
        obtain ⟨x, hx⟩ := one _ _ _ h2
        refine ⟨(cs, x), hx, fun j u hj => ?_⟩
        unfold World.cells? at hcs
        rw [if_pos (Nat.zero_le _)] at hcs
        have hjk : j < k := by
          have h3 := (List.getElem?_eq_some_iff.1 hj).1
          have h4 := Lib.mapM_length hcs
          simp only at h3
          simpa [h4] using h3
        obtain ⟨q, hq, hf⟩ := Lib.mapM_at hcs j j (by rw [List.getElem?_range hjk])
        simp only at hj
        rw [hq] at hj
        cases hj
        rwa [addr_add] at hf
      have hch : ∃ f : Nat → List Value × α, ∀ i, i < len → R W (f i).1 (f i).2 ∧ ∀ j u, (f i).1[j]? = some u → W.cell? ⟨b, o + i * k + j, none⟩ = some u :=
        ⟨fun i => if h : i < len then Classical.choose (hone i h) else Classical.choose (hone 0 (by omega)), fun i hi => by
          simp only [dif_pos hi]; exact Classical.choose_spec (hone i hi)⟩
      obtain ⟨f, hf⟩ := hch
      have hb : b < W.heap.size := by
        have h1 := hev 0 (by omega)
        rw [List.getElem?_eq_getElem (by omega), addr_add] at h1
        obtain ⟨cs, hcs, _⟩ := Option.bind_eq_some_iff.1 h1
        unfold World.cells? at hcs
        rw [if_pos (Nat.zero_le _)] at hcs
        obtain ⟨q, _, hq⟩ := Lib.mapM_at hcs 0 0 (by rw [List.getElem?_range hk0])
        rw [addr_add] at hq
        exact cell_lt hq
      refine ⟨some ⟨b, o, none⟩, cap, (List.range len).map (fun i => (f i).2), by simp, by simpa using hl, hm, fun i => (f i).1, fun _ => ⟨b, o, rfl, hb, fun j hj => (hf j (by simpa using hj)).2⟩, fun i x hx => ?_⟩
      simp only [List.getElem?_map, Option.map_eq_some_iff] at hx
      obtain ⟨j, hj, rfl⟩ := hx
      have hil : i < len := by have := (List.getElem?_eq_some_iff.1 hj).1; simpa using this
      rw [List.getElem?_range hil] at hj
      cases hj
      exact (hf i hil).1
set_option maxRecDepth 20000 in
theorem open_nums {H : Type} {enc : TypeId × Value → H} {W : World} {base : Nat} {v : Value} {d : DataW H} {p : List MemPlace} (hval : Value.okWide Try.prog W .any base 24 v)
    (h : DataW.Trod enc Try.prog W 0 (fun _ => true) true 24 v d p) : ∃ rl : List Int, ∃ ao cap, v = .slice ao rl.length cap ∧ rl.length ≤ cap ∧ cap ≤ maxLen ∧ (∀ x ∈ rl, -9223372036854775808 ≤ x ∧ x ≤ 9223372036854775807) ∧ (rl = [] ∨ ∃ g off, ao = some ⟨g, off, none⟩ ∧ g < W.heap.size ∧ g < W.heap.size ∧ ∀ (j : Nat) x, rl[j]? = some x → W.cell? ⟨g, off + j, none⟩ = some (.int .i64 x)) := by
  obtain ⟨a, len, cap, rfl⟩ := okWide_slice Try.underlying24 hval
  obtain ⟨fuel, hf⟩ := h
  rcases open_ints Try.underlying24 Try.underlying3 cells3 hf with ⟨hcs, hx⟩ | ⟨x, l, c, zs, hcs, _, hl, hm, hz, hx, hcell, hwz⟩
  · simp [Value.cells] at hcs
    obtain ⟨rfl, rfl, rfl⟩ := hcs
    exact ⟨[], none, 0, rfl, Nat.le_refl _, by unfold maxLen; omega, by simp, .inl rfl⟩
  · simp [Value.cells] at hcs
    obtain ⟨rfl, rfl, rfl⟩ := hcs
    have hzl : zs.length = cap := by simpa using hz
    refine ⟨zs.take len, some x, cap, ?_, ?_, hm, fun y hy => bounds_i64 (hwz y (List.mem_of_mem_take hy)), ?_⟩
    · rw [List.length_take, Nat.min_eq_left (by omega)]
    · rw [List.length_take]; omega
    · by_cases h0 : len = 0
      · left; simp [h0]
      · right
        have h00 := hcell 0 (by omega)
        obtain ⟨b, o, sp⟩ := x
        have hsp : sp = none := by
          have e : (⟨b, o, sp⟩ : Addr).add 0 = ⟨b, o, sp⟩ := by unfold Addr.add; simp
          rw [e] at h00
          exact cell_spot h00
        subst hsp
        have hb : b < W.heap.size := by
          have e : (⟨b, o, none⟩ : Addr).add 0 = ⟨b, o, none⟩ := by unfold Addr.add; simp
          rw [e] at h00
          exact cell_lt h00
        refine ⟨b, o, rfl, hb, hb, fun j y hj => ?_⟩
        have hj1 : j < len := by
          have := (List.getElem?_eq_some_iff.1 hj).1
          simp at this; omega
        have hj2 : zs[j]? = some y := by rwa [List.getElem?_take_of_lt hj1] at hj
        have hc := hcell j (by omega)
        have e : (⟨b, o, none⟩ : Addr).add j = ⟨b, o + j, none⟩ := by unfold Addr.add; split <;> simp_all
        rw [e] at hc
        rw [hc]
        simp [List.getD, hj2]
set_option maxRecDepth 20000 in
theorem open_numsV {H : Type} {enc : TypeId × Value → H} {W : World} {base : Nat} {v : Value} {d : DataW H} {p : List MemPlace} (hval : Value.okWide Try.prog W .any base 24 v)
    (h : DataW.Trod enc Try.prog W 0 (fun _ => true) true 24 v d p) : ∃ l, NView W v l := by
  obtain ⟨rl, ao, cap, rfl, h1, h2, -, h3⟩ := open_nums hval h
  exact ⟨rl, ao, cap, rfl, h1, h2, h3.imp id fun ⟨g, off, e, _, _, hc⟩ => ⟨g, off, e, hc⟩⟩
end Go.Proofs.Ytbdeflpjplhafaa.J

