/- How bytes and instructions that came in are seen by the walks. -/
import Derived.Test.YtcmneinhcfejhaaRows
import Derived.Test.YtcmneinhcfejhaaG
import Derived.ProofKit
import Derived.OpenShut
import Derived.SizedLaws
import Derived.Lib.LaidU8
import Derived.ChangeOld
import Derived.Below
namespace Go.Proofs.Ytcmneinhcfejhaa
open Go.ChangeShapes Go.WideShapes Go.ChangeAt Go.RowKit

theorem laidOut : laidOutB Try.prog = true := by kernel_rfl
theorem cells5 : Try.prog.cellsOf 5 = 1 := by kernel_rfl
theorem cells3 : Try.prog.cellsOf 3 = 1 := by kernel_rfl
theorem cells33 : Try.prog.cellsOf 33 = 4 := by kernel_rfl
theorem addr_add (b o n : Nat) : (⟨b, o, none⟩ : Addr).add n = ⟨b, o + n, none⟩ := by unfold Addr.add; split <;> simp_all
set_option maxRecDepth 20000 in
theorem open_bytes {H : Type} {enc : TypeId × Value → H} {W : World} {base : Nat} {v : Value} {d : DataW H} {p : List MemPlace} (hval : Value.okWide Try.prog W .any base 29 v)
    (h : DataW.Trod enc Try.prog W 0 (fun _ => true) true 29 v d p) : ∃ lb, View W v lb := by
  obtain ⟨a, len, cap, rfl⟩ := okWide_slice Try.underlying29 hval
  obtain ⟨fuel, hf⟩ := h
  rcases open_ints Try.underlying29 Try.underlying5 cells5 hf with ⟨hcs, hx⟩ | ⟨x, l, c, zs, hcs, _, hl, hm, hz, hx, hcell, hwz⟩
  · simp [Value.cells] at hcs
    obtain ⟨rfl, rfl, rfl⟩ := hcs
    exact ⟨[], View.empty W⟩
  · simp [Value.cells] at hcs
    obtain ⟨rfl, rfl, rfl⟩ := hcs
    have hzl : zs.length = cap := by simpa using hz
    refine ⟨zs.take len, some x, cap, ?_, ?_, hm, ?_, ?_⟩
    · rw [List.length_take, Nat.min_eq_left (by omega)]
    · rw [List.length_take]; omega
    · intro y hy
      have := hwz y (List.mem_of_mem_take hy)
      have := bounds_u8 this
      omega
    · by_cases h0 : len = 0
      · left; simp [h0]
      · right
        have h00 := hcell 0 (by omega)
        obtain ⟨b, o, sp⟩ := x
        have hsp : sp = none := by
          have e : (⟨b, o, sp⟩ : Addr).add 0 = ⟨b, o, sp⟩ := by unfold Addr.add; simp
          rw [e] at h00
          exact cell_spot h00
        subst hsp
        refine ⟨b, o, rfl, fun j y hj => ?_⟩
        have hj1 : j < len := by
          have := (List.getElem?_eq_some_iff.1 hj).1
          simp at this; omega
        have hj2 : zs[j]? = some y := by rwa [List.getElem?_take_of_lt hj1] at hj
        have hc := hcell j (by omega)
        rw [addr_add] at hc
        rw [hc]
        simp [List.getD, hj2]
set_option maxRecDepth 20000 in
/-- An instruction that was read: its cells. -/
theorem trod_inst {H : Type} {enc : TypeId × Value → H} {W : World} (fuel : Nat) (cs : List Value) (y : DataW H × List MemPlace)
    (ht : DataW.trod enc Try.prog W 0 (fun _ => true) true fuel 33 cs = some y) : ∃ x : IN, cs = irow x := by
  obtain ⟨xs, n, -, -, hl, hxl, hall⟩ := DataW.trod_struct Try.underlying33 ht
  rw [cells33] at hl
  have hxl5 : xs.length = 4 := by simpa using hxl
  match cs, hl with
  | [k0, k1, k2, k3], _ =>
    match xs, hxl5 with
    | [x0, x1, x2, x3], _ =>
      have t0 : DataW.trod enc Try.prog W 0 (fun _ => true) true n 3 [k0] = some x0 := by simpa [cells3] using hall 0 _ rfl
      have t1 : DataW.trod enc Try.prog W 0 (fun _ => true) true n 3 [k1] = some x1 := by simpa [cells3] using hall 1 _ rfl
      have t2 : DataW.trod enc Try.prog W 0 (fun _ => true) true n 3 [k2] = some x2 := by simpa [cells3] using hall 2 _ rfl
      have t3 : DataW.trod enc Try.prog W 0 (fun _ => true) true n 3 [k3] = some x3 := by simpa [cells3] using hall 3 _ rfl
      obtain ⟨n0, e0, -, -⟩ := DataW.trod_int Try.underlying3 t0
      obtain ⟨n1, e1, -, -⟩ := DataW.trod_int Try.underlying3 t1
      obtain ⟨n2, e2, -, -⟩ := DataW.trod_int Try.underlying3 t2
      obtain ⟨n3, e3, -, -⟩ := DataW.trod_int Try.underlying3 t3
      simp only [List.cons.injEq, and_true] at e0 e1 e2 e3
      subst e0 e1 e2 e3
      exact ⟨⟨n0, n1, n2, n3⟩, rfl⟩
set_option maxRecDepth 20000 in
/-- Instructions that came in, and what the reach says of them. -/
theorem open_insts {H : Type} {enc : TypeId × Value → H} {W : World} {base : Nat} {v : Value} {d : DataW H} {p : List MemPlace} (hval : Value.okWide Try.prog W .any base 25 v)
    (h : DataW.Trod enc Try.prog W 0 (fun _ => true) true 25 v d p) (hr : ∀ x ∈ DataW.weights Try.prog 25 d, x ≤ reachBytes) : ∃ l, IView W v l ∧ l.length ≤ 35184372088832 := by
  obtain ⟨ao, n0, c0, rfl⟩ := okWide_slice Try.underlying25 hval
  obtain ⟨fuel, hf⟩ := h
  rcases DataW.trod_slice Try.underlying25 hf with ⟨hcs, _⟩ | ⟨a, len, cap, elems, rest, n, _, hcs, hd, _, hl, hm, hlen, hev, _, _⟩
  · simp [Value.cells] at hcs
    obtain ⟨rfl, rfl, rfl⟩ := hcs
    exact ⟨[], IView.empty W, Nat.zero_le _⟩
  · simp [Value.cells] at hcs
    obtain ⟨rfl, rfl, rfl⟩ := hcs
    rw [cells33] at hev
    have hone : ∀ i, i < n0 → ∃ x : IN, ∀ j u, (irow x)[j]? = some u → W.cell? ((a.add (i * 4)).add j) = some u := by
      intro i hi
      have h1 := hev i hi
      rw [List.getElem?_eq_getElem (by omega)] at h1
      obtain ⟨cs, hcs, h2⟩ := Option.bind_eq_some_iff.1 h1
      obtain ⟨x, rfl⟩ := trod_inst _ _ _ h2
      refine ⟨x, fun j u hj => ?_⟩
      unfold World.cells? at hcs
      rw [if_pos (Nat.zero_le _)] at hcs
      have hjk : j < 4 := (List.getElem?_eq_some_iff.1 hj).1
      obtain ⟨q, hq, hf⟩ := Lib.mapM_at hcs j j (by rw [List.getElem?_range hjk])
      rw [hq] at hj
      cases hj
      exact hf
    have hw : n0 * 32 ≤ reachBytes := by
      have hd' : d = DataW.slice (List.map (fun x => x.fst) elems) (List.map (fun x => x.fst) rest) := congrArg Prod.fst hd
      have := hr ((elems.length + rest.length) * 32) (by
        rw [hd', DataW.weights, Try.underlying25]
        simp only [List.mem_cons, List.length_map]
        left
        rw [show Try.prog.bytesOf 33 = 32 by kernel_rfl])
      rw [hlen] at this
      omega
    unfold reachBytes at hw
    by_cases h0 : n0 = 0
    · subst h0
      exact ⟨[], ⟨some a, c0, rfl, Nat.zero_le _, hm, .inl rfl⟩, Nat.zero_le _⟩
    · obtain ⟨b, o, sp⟩ := a
      have hsp : sp = none := by
        obtain ⟨x, hx⟩ := hone 0 (by omega)
        have h1 := hx 0 _ rfl
        have e : ((⟨b, o, sp⟩ : Addr).add (0 * 4)).add 0 = ⟨b, o, sp⟩ := by simp [Addr.add]
        rw [e] at h1
        exact cell_spot h1
      subst hsp
      have hch : ∃ f : Nat → IN, ∀ i, i < n0 → IAt W b (o + i * 4) (f i) :=
        ⟨fun i => if h : i < n0 then Classical.choose (hone i h) else ⟨0, 0, 0, 0⟩, fun i hi => by
          simp only [dif_pos hi]
          have hx := Classical.choose_spec (hone i hi)
          generalize Classical.choose (hone i hi) = x at *
          have h0 := hx 0 _ rfl
          have h1 := hx 1 _ rfl
          have h2 := hx 2 _ rfl
          have h3 := hx 3 _ rfl
          simp only [addr_add] at h0 h1 h2 h3
          exact ⟨h0, h1, h2, h3⟩⟩
      obtain ⟨f, hf⟩ := hch
      refine ⟨(List.range n0).map f, ⟨some ⟨b, o, none⟩, c0, by simp, by simpa using hl, hm, .inr ⟨b, o, rfl, fun j x hj => ?_⟩⟩, by simp; omega⟩
      simp only [List.getElem?_map, Option.map_eq_some_iff] at hj
      obtain ⟨k, hk, rfl⟩ := hj
      have hkl : j < n0 := by have := (List.getElem?_eq_some_iff.1 hk).1; simpa using this
      rw [List.getElem?_range hkl] at hk
      cases hk
      exact hf j hkl
end Go.Proofs.Ytcmneinhcfejhaa
