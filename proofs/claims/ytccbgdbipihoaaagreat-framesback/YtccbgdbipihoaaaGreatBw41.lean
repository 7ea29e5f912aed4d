/- Texts QOp FrOp. -/
import Derived.Test.YtccbgdbipihoaaaGreatBw25
import Derived.Test.YtccbgdbipihoaaaGreatRows
import Derived.ProofKit
import Derived.OpenShut
import Derived.SliceStrings
import Derived.Lib.LaidU8
import Derived.ChangeOld
import Derived.Below
import Derived.Test.YtccbgdbipihoaaaGreatBw35
import Derived.SizedLaws
namespace Go.Proofs.YtccbgdbipihoaaaGreat.Q
open Go.ChangeShapes Go.WideShapes Go.ChangeAt Go.RowKit
open Go.ChangeMaps (open_string shut_string)

theorem cells3 : Tryz.prog.cellsOf 3 = 1 := by kernel_rfl
theorem cells9 : Tryz.prog.cellsOf 9 = 1 := by kernel_rfl
theorem celX72 : Tryz.prog.cellsOf 23 = 1 := by kernel_rfl
theorem celX74 : Tryz.prog.cellsOf 25 = 3 := by kernel_rfl
theorem cell_lt {W : World} {b o : Nat} {u : Value} (h : W.cell? ⟨b, o, none⟩ = some u) : b < W.heap.size := by
  apply Nat.lt_of_not_le
  intro hle
  have hn : W.heap[b]? = none := Array.getElem?_eq_none (by omega)
  simp [World.cell?, hn] at h
set_option maxRecDepth 20000 in
theorem trod_list {α : Type} {ST T k : Nat} {R : World → List Value → α → Prop} (hu : Tryz.prog.underlying ST = some (.slice T)) (hk : Tryz.prog.cellsOf T = k) (hk0 : 0 < k) {H : Type} {enc : TypeId × Value → H} {W : World} {fuel : Nat} {cs : List Value} {y : DataW H × List MemPlace}
    (one : ∀ (n : Nat) (cs' : List Value) (y' : DataW H × List MemPlace), DataW.trod enc Tryz.prog W 0 (fun _ => true) true n T cs' = some y' → ∃ x : α, R W cs' x)
    (ht : DataW.trod enc Tryz.prog W 0 (fun _ => true) true fuel ST cs = some y) : ∃ ao cap l, cs = [.slice ao (List.length l) cap] ∧ LAt k R W ao cap l := by
  rcases DataW.trod_slice hu ht with ⟨rfl, _⟩ | ⟨a, len, cap, elems, rest, n, _, rfl, _, _, hl, hm, hlen, hev, _, _⟩
  · exact ⟨none, 0, [], rfl, LAt.nil _ _ _ _ _ (Nat.zero_le _)⟩
  · by_cases h0 : len = 0
    · subst h0
      exact ⟨some a, cap, [], rfl, LAt.nil _ _ _ _ _ hm⟩
    · obtain ⟨b, o, sp⟩ := a
      rw [hk] at hev
      have hsp : sp = none := by
        have h1 := hev 0 (by omega)
        rw [List.getElem?_eq_getElem (by omega)] at h1
        obtain ⟨cs, hcs, _⟩ := Option.bind_eq_some_iff.1 h1
        unfold World.cells? at hcs
        rw [if_pos (Nat.zero_le _)] at hcs
        obtain ⟨q, _, hq⟩ := Lib.mapM_at hcs 0 0 (by rw [List.getElem?_range hk0])
        have e : ((⟨b, o, sp⟩ : Addr).add (0 * k)).add 0 = ⟨b, o, sp⟩ := by simp [Addr.add]
        rw [e] at hq
        exact cell_spot hq
      subst hsp
      have hone : ∀ i, i < len → ∃ p : List Value × α, R W p.1 p.2 ∧ ∀ j u, p.1[j]? = some u → W.cell? ⟨b, o + i * k + j, none⟩ = some u := by
        intro i hi
        have h1 := hev i hi
        rw [List.getElem?_eq_getElem (by omega), addr_add] at h1
        obtain ⟨cs, hcs, h2⟩ := Option.bind_eq_some_iff.1 h1
        obtain ⟨x, hx⟩ := one _ _ _ h2
        refine ⟨(cs, x), hx, fun j u hj => ?_⟩
        unfold World.cells? at hcs
        rw [if_pos (Nat.zero_le _)] at hcs
        have hjk : j < k := by
          have h3 := (List.getElem?_eq_some_iff.1 hj).1
          have h4 := Lib.mapM_length hcs
          simp only at h3
          simpa [h4] using h3
        obtain ⟨q, hq, hf⟩ := Lib.mapM_at hcs j j (by rw [List.getElem?_range hjk])
        simp only at hj
        rw [hq] at hj
        cases hj
        rwa [addr_add] at hf
      have hch : ∃ f : Nat → List Value × α, ∀ i, i < len → R W (f i).1 (f i).2 ∧ ∀ j u, (f i).1[j]? = some u → W.cell? ⟨b, o + i * k + j, none⟩ = some u :=
        ⟨fun i => if h : i < len then Classical.choose (hone i h) else Classical.choose (hone 0 (by omega)), fun i hi => by
          simp only [dif_pos hi]; exact Classical.choose_spec (hone i hi)⟩
      obtain ⟨f, hf⟩ := hch
      have hb : b < W.heap.size := by
        have h1 := hev 0 (by omega)
        rw [List.getElem?_eq_getElem (by omega), addr_add] at h1
        obtain ⟨cs, hcs, _⟩ := Option.bind_eq_some_iff.1 h1
        unfold World.cells? at hcs
        rw [if_pos (Nat.zero_le _)] at hcs
        obtain ⟨q, _, hq⟩ := Lib.mapM_at hcs 0 0 (by rw [List.getElem?_range hk0])
        rw [addr_add] at hq
        exact cell_lt hq
      refine ⟨some ⟨b, o, none⟩, cap, (List.range len).map (fun i => (f i).2), by simp, by simpa using hl, hm, fun i => (f i).1, fun _ => ⟨b, o, rfl, hb, fun j hj => (hf j (by simpa using hj)).2⟩, fun i x hx => ?_⟩
      simp only [List.getElem?_map, Option.map_eq_some_iff] at hx
      obtain ⟨j, hj, rfl⟩ := hx
      have hil : i < len := by have := (List.getElem?_eq_some_iff.1 hj).1; simpa using this
      rw [List.getElem?_range hil] at hj
      cases hj
      exact (hf i hil).1
set_option maxRecDepth 20000 in
theorem trod_text {H : Type} {enc : TypeId × Value → H} {W : World} (fuel : Nat) (cs : List Value) (y : DataW H × List MemPlace)
    (ht : DataW.trod enc Tryz.prog W 0 (fun _ => true) true fuel 9 cs = some y) : ∃ s : ByteArray, TextR W cs s := by
  obtain ⟨s, rfl, -, m⟩ := DataW.trod_string Tryz.underlying9 ht
  unfold maxLen at m
  exact ⟨s, rfl, m⟩
set_option maxRecDepth 20000 in
theorem open_nums {H : Type} {enc : TypeId × Value → H} {W : World} {base : Nat} {v : Value} {d : DataW H} {p : List MemPlace} (hval : Value.okWide Tryz.prog W .any base 22 v)
    (h : DataW.Trod enc Tryz.prog W 0 (fun _ => true) true 22 v d p) : ∃ rl : List Int, ∃ ao cap, v = .slice ao rl.length cap ∧ rl.length ≤ cap ∧ cap ≤ maxLen ∧ (∀ x ∈ rl, -9223372036854775808 ≤ x ∧ x ≤ 9223372036854775807) ∧ (rl = [] ∨ ∃ g off, ao = some ⟨g, off, none⟩ ∧ g < W.heap.size ∧ g < W.heap.size ∧ ∀ (j : Nat) x, rl[j]? = some x → W.cell? ⟨g, off + j, none⟩ = some (.int .i64 x)) := by
  obtain ⟨a, len, cap, rfl⟩ := okWide_slice Tryz.underlying22 hval
  obtain ⟨fuel, hf⟩ := h
  rcases open_ints Tryz.underlying22 Tryz.underlying3 cells3 hf with ⟨hcs, hx⟩ | ⟨x, l, c, zs, hcs, _, hl, hm, hz, hx, hcell, hwz⟩
  · simp [Value.cells] at hcs
    obtain ⟨rfl, rfl, rfl⟩ := hcs
    exact ⟨[], none, 0, rfl, Nat.le_refl _, by unfold maxLen; omega, by simp, .inl rfl⟩
  · simp [Value.cells] at hcs
    obtain ⟨rfl, rfl, rfl⟩ := hcs
    have hzl : zs.length = cap := by simpa using hz
    refine ⟨zs.take len, some x, cap, ?_, ?_, hm, fun y hy => bounds_i64 (hwz y (List.mem_of_mem_take hy)), ?_⟩
    · rw [List.length_take, Nat.min_eq_left (by omega)]
    · rw [List.length_take]; omega
    · by_cases h0 : len = 0
      · left; simp [h0]
      · right
        have h00 := hcell 0 (by omega)
        obtain ⟨b, o, sp⟩ := x
        have hsp : sp = none := by
          have e : (⟨b, o, sp⟩ : Addr).add 0 = ⟨b, o, sp⟩ := by unfold Addr.add; simp
          rw [e] at h00
          exact cell_spot h00
        subst hsp
        have hb : b < W.heap.size := by
          have e : (⟨b, o, none⟩ : Addr).add 0 = ⟨b, o, none⟩ := by unfold Addr.add; simp
          rw [e] at h00
          exact cell_lt h00
        refine ⟨b, o, rfl, hb, hb, fun j y hj => ?_⟩
        have hj1 : j < len := by
          have := (List.getElem?_eq_some_iff.1 hj).1
          simp at this; omega
        have hj2 : zs[j]? = some y := by rwa [List.getElem?_take_of_lt hj1] at hj
        have hc := hcell j (by omega)
        have e : (⟨b, o, none⟩ : Addr).add j = ⟨b, o + j, none⟩ := by unfold Addr.add; split <;> simp_all
        rw [e] at hc
        rw [hc]
        simp [List.getD, hj2]
end Go.Proofs.YtccbgdbipihoaaaGreat.Q
namespace Go.Proofs.YtccbgdbipihoaaaGreat.Fr
open Go.ChangeShapes Go.WideShapes Go.ChangeAt Go.RowKit Q Q.D

theorem FrV.rowsO {w : World} {ao : Option Addr} {c : Nat} {l : List ByteArray} (h : LAt 1 TextR w ao c l) : 0 < l.length → ∃ b off, ao = some ⟨b, off, none⟩ ∧ b < w.heap.size ∧ ∀ j, j < l.length → w.cell? ⟨b, off + j, none⟩ = some (.string (l.getD j ⟨#[]⟩)) := by
  intro h0
  obtain ⟨_, _, rows, hr, k⟩ := h
  obtain ⟨b, off, e, hlt, d⟩ := hr h0
  refine ⟨b, off, e, hlt, fun j hj => ?_⟩
  obtain ⟨x, hx⟩ : ∃ x, l[j]? = some x := ⟨_, List.getElem?_eq_getElem hj⟩
  have := d j hj 0 (.string x) (by rw [(k j x hx).1]; rfl)
  rw [List.getD_eq_getElem?_getD, hx]
  simpa using this
theorem bytes9 : Tryz.prog.bytesOf 9 = 16 := by kernel_rfl
theorem weights_all {H : Type} {P : Program} {e : TypeId} : ∀ {ds : List (DataW H)} {d : DataW H}, d ∈ ds → ∀ n ∈ d.weights P e, n ∈ DataW.weightsAll P e ds
  | d0 :: ds, d, hd, n, hn => by
    rw [DataW.weightsAll, List.mem_append]
    rcases List.mem_cons.1 hd with rfl | hd
    · exact .inl hn
    · exact .inr (weights_all hd n hn)
set_option maxRecDepth 20000 in
theorem trod_texts {H : Type} {enc : TypeId × Value → H} {W : World} {fuel : Nat} {k : Value} {y : DataW H × List MemPlace}
    (ht : DataW.trod enc Tryz.prog W 0 (fun _ => true) true fuel 23 [k] = some y) (hr : ∀ x ∈ DataW.weights Tryz.prog 23 y.1, x ≤ reachBytes) : ∃ ao c l, k = .slice ao (List.length l) c ∧ LAt 1 TextR W ao c l ∧ l.length ≤ 8796093021952 ∧ ∀ s ∈ l, s.size ≤ 140737488351232 := by
  obtain ⟨ao, c, l, e, L⟩ := trod_list (R := TextR) Tryz.underlying23 cells9 (by decide) trod_text ht
  simp only [List.cons.injEq, and_true] at e
  subst e
  refine ⟨ao, c, l, rfl, L, ?_⟩
  have HL := FrV.rowsO L
  rcases DataW.trod_slice Tryz.underlying23 ht with ⟨e, _⟩ | ⟨a, len, cap, elems, rest, n, _, e, hy, _, hl, hm, hlen, hev, _⟩
  · simp only [List.cons.injEq, Value.slice.injEq, and_true] at e
    have h0 : l = [] := List.length_eq_zero_iff.1 (by omega)
    subst h0
    exact ⟨by simp, fun s hs => by simp at hs⟩
  · simp only [List.cons.injEq, Value.slice.injEq, and_true] at e
    obtain ⟨rfl, el, rfl⟩ := e
    refine ⟨?_, fun s hs => ?_⟩
    rotate_left
    · obtain ⟨i, hi⟩ := List.getElem?_of_mem hs
      have hil := (List.getElem?_eq_some_iff.1 hi).1
      obtain ⟨b, off, eb, _, hc⟩ := HL (by omega)
      cases eb
      have h1 := hev i (by omega)
      rw [List.getElem?_eq_getElem (by omega), cells9, Nat.mul_one, addr_add] at h1
      obtain ⟨cs, hcs, h2⟩ := Option.bind_eq_some_iff.1 h1
      obtain ⟨s', rfl, ey, _⟩ := DataW.trod_string Tryz.underlying9 h2
      unfold World.cells? at hcs
      rw [if_pos (Nat.zero_le _)] at hcs
      obtain ⟨q, hq, hf⟩ := Lib.mapM_at hcs 0 0 (by rw [List.getElem?_range (by decide)])
      simp only [List.getElem?_cons_zero, Option.some.injEq] at hq
      subst hq
      rw [addr_add, Nat.add_zero, hc i hil, List.getD_eq_getElem?_getD, hi] at hf
      simp only [Option.getD_some, Option.some.injEq, Value.string.injEq] at hf
      subst hf
      have hw := hr s.data.toList.length (by
        rw [hy]
        simp only [DataW.weights]
        rw [Tryz.underlying23]
        simp only [List.mem_cons, List.mem_append]
        refine .inr (.inl (weights_all (d := .lit (.string s.data.toList)) ?_ _ (by simp [DataW.weights])))
        have : elems[i] ∈ elems := List.getElem_mem _
        rw [ey] at this
        exact List.mem_map.2 ⟨_, this, rfl⟩)
      rw [Lib.size_eq]
      unfold reachBytes at hw
      omega
    have := hr ((elems.length + rest.length) * 16) (by
      rw [hy]
      simp only [DataW.weights]
      rw [Tryz.underlying23]
      simp only [List.mem_cons, List.length_map, bytes9]
      left
      trivial)
    unfold reachBytes at this
    omega
set_option maxRecDepth 20000 in
theorem open_frame {H : Type} {enc : TypeId × Value → H} {W : World} {base : Nat} {v : Value} {d : DataW H} {p : List MemPlace} (hval : Value.okWide Tryz.prog W .any base 25 v)
    (h : DataW.Trod enc Tryz.prog W 0 (fun _ => true) true 25 v d p) (hr : ∀ x ∈ DataW.weights Tryz.prog 25 d, x ≤ reachBytes) : ∃ f : RD, FrV W v f ∧ (f.loc.length ≤ 8796093021952 ∧ f.stk.length ≤ 8796093021952) ∧ (∀ s ∈ f.loc, s.size ≤ 140737488351232) ∧ ∀ s ∈ f.stk, s.size ≤ 140737488351232 := by
  obtain ⟨cs, rfl, hcs⟩ := okWide_struct Tryz.underlying25 hval
  obtain ⟨fuel, hf⟩ := h
  rw [show (Value.agg cs).cells = cs from rfl] at hf
  obtain ⟨xs, n, -, hx, hl, hxl, hall⟩ := DataW.trod_struct Tryz.underlying25 hf
  rw [celX74] at hl
  have hxl5 : xs.length = 3 := by simpa using hxl
  obtain ⟨cs⟩ := cs
  simp only at hl hall ⊢
  match cs, hl with
  | [k0, k1, k2], _ =>
    match xs, hxl5 with
    | [x0, x1, x2], _ =>
      have t0 : DataW.trod enc Tryz.prog W 0 (fun _ => true) true n 3 [k0] = some x0 := by simpa [cells3] using hall 0 _ rfl
      have t1 : DataW.trod enc Tryz.prog W 0 (fun _ => true) true n 23 [k1] = some x1 := by simpa [celX72] using hall 1 _ rfl
      have t2 : DataW.trod enc Tryz.prog W 0 (fun _ => true) true n 23 [k2] = some x2 := by simpa [celX72] using hall 2 _ rfl
      have hd : d = .agg [x0.1, x1.1, x2.1] := by
        have := congrArg Prod.fst hx
        simpa using this
      have hw : DataW.weights Tryz.prog 25 d = x0.1.weights Tryz.prog 3 ++ (x1.1.weights Tryz.prog 23 ++ (x2.1.weights Tryz.prog 23 ++ [])) := by
        rw [hd]
        simp only [DataW.weights]
        rw [Tryz.underlying25]
        rfl
      rw [hw] at hr
      obtain ⟨n0, e0, -, -⟩ := DataW.trod_int Tryz.underlying3 t0
      obtain ⟨ao1, c1, l1, e1, L1, z1, y1⟩ := trod_texts t1 (fun x hx => hr x (by simp [hx]))
      obtain ⟨ao2, c2, l2, e2, L2, z2, y2⟩ := trod_texts t2 (fun x hx => hr x (by simp [hx]))
      simp only [List.cons.injEq, and_true] at e0
      subst e0 e1 e2
      exact ⟨⟨n0, l1, l2⟩, ⟨ao1, c1, ao2, c2, rfl, L1, L2⟩, ⟨z1, z2⟩, y1, y2⟩
set_option maxRecDepth 20000 in
theorem open_texts {H : Type} {enc : TypeId × Value → H} {W : World} {base : Nat} {v : Value} {d : DataW H} {p : List MemPlace} (hval : Value.okWide Tryz.prog W .any base 23 v)
    (h : DataW.Trod enc Tryz.prog W 0 (fun _ => true) true 23 v d p) (hr : ∀ x ∈ DataW.weights Tryz.prog 23 d, x ≤ reachBytes) : ∃ ao c l, v = .slice ao (List.length l) c ∧ LAt 1 TextR W ao c l ∧ l.length ≤ 8796093021952 ∧ ∀ s ∈ l, s.size ≤ 140737488351232 := by
  obtain ⟨a, len, cap, rfl⟩ := okWide_slice Tryz.underlying23 hval
  obtain ⟨fuel, hf⟩ := h
  exact trod_texts (k := .slice a len cap) hf hr
end Go.Proofs.YtccbgdbipihoaaaGreat.Fr
