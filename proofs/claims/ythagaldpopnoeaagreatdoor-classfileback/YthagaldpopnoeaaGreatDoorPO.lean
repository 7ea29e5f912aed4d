/- How constants that came in are seen by the walks. -/
import Derived.Test.YthagaldpopnoeaaGreatDoorTab
import Derived.Test.YthagaldpopnoeaaGreatDoorPV
import Derived.ShutString
import Derived.ChangeOld
import Derived.Below
namespace Go.Proofs.YthagaldpopnoeaaGreatDoor
open Go.ChangeShapes Go.WideShapes Go.ChangeAt Go.RowKit
open Go.ChangeMaps (open_string shut_string)

theorem laidOut : laidOutB Tryz.prog = true := by kernel_rfl
theorem cells30 : Tryz.prog.cellsOf 85 = 5 := by kernel_rfl
theorem cells3 : Tryz.prog.cellsOf 3 = 1 := by kernel_rfl
theorem cells21 : Tryz.prog.cellsOf 21 = 1 := by kernel_rfl
theorem cells9 : Tryz.prog.cellsOf 9 = 1 := by kernel_rfl

theorem bulk_mem {H : Type} {d : DataW H} : ∀ {l : List (DataW H)}, d ∈ l → Rows.uptoBulk d ≤ Rows.uptoBulkAll l
  | x :: r, h => by
    simp only [Rows.uptoBulkAll]
    rcases List.mem_cons.1 h with rfl | h'
    · omega
    · have := bulk_mem h'; omega

set_option maxRecDepth 20000 in
/-- A constant that was read: its cells, and how long its texts are. -/
theorem const_of_cells {H : Type} {enc : TypeId × Value → H} {W : World} {fuel : Nat} {cs : List Value} {y : DataW H × List MemPlace}
    (ht : DataW.trod enc Tryz.prog W 0 (fun _ => true) true fuel 85 cs = some y) : ∃ c : CD, cs = c.cells ∧ c.Ok ∧ c.cls.size ≤ Rows.uptoBulk y.1 ∧ c.nm.size ≤ Rows.uptoBulk y.1 ∧ c.dsc.size ≤ Rows.uptoBulk y.1 := by
  obtain ⟨xs, n, -, hy, hl, hxl, hall⟩ := DataW.trod_struct Tryz.underlying85 ht
  rw [cells30] at hl
  have hxl5 : xs.length = 5 := by simpa using hxl
  match cs, hl with
  | [k0, k1, k2, k3, k4], _ =>
    match xs, hxl5 with
    | [x0, x1, x2, x3, x4], _ =>
      have t0' : DataW.trod enc Tryz.prog W 0 (fun _ => true) true n 3 [k0] = some x0 := by simpa [cells3] using hall 0 _ rfl
      have t1' : DataW.trod enc Tryz.prog W 0 (fun _ => true) true n 21 [k1] = some x1 := by simpa [cells21] using hall 1 _ rfl
      have t2' : DataW.trod enc Tryz.prog W 0 (fun _ => true) true n 9 [k2] = some x2 := by simpa [cells9] using hall 2 _ rfl
      have t3' : DataW.trod enc Tryz.prog W 0 (fun _ => true) true n 9 [k3] = some x3 := by simpa [cells9] using hall 3 _ rfl
      have t4' : DataW.trod enc Tryz.prog W 0 (fun _ => true) true n 9 [k4] = some x4 := by simpa [cells9] using hall 4 _ rfl
      obtain ⟨kind, e0, r0, -⟩ := DataW.trod_int Tryz.underlying3 t0'
      obtain ⟨nn, e1, r1, w1⟩ := DataW.trod_int Tryz.underlying21 t1'
      obtain ⟨s2, e2, r2, m2⟩ := DataW.trod_string Tryz.underlying9 t2'
      obtain ⟨s3, e3, r3, m3⟩ := DataW.trod_string Tryz.underlying9 t3'
      obtain ⟨s4, e4, r4, m4⟩ := DataW.trod_string Tryz.underlying9 t4'
      simp only [List.cons.injEq, and_true] at e0 e1 e2 e3 e4
      subst e0 e1 e2 e3 e4
      unfold maxLen at m2 m3 m4
      have hb := bounds_i32 w1
      have z2 := Lib.size_eq s2
      have z3 := Lib.size_eq s3
      have z4 := Lib.size_eq s4
      have b2 := bulk_mem (d := x2.1) (l := [x0.1, x1.1, x2.1, x3.1, x4.1]) (by simp)
      have b3 := bulk_mem (d := x3.1) (l := [x0.1, x1.1, x2.1, x3.1, x4.1]) (by simp)
      have b4 := bulk_mem (d := x4.1) (l := [x0.1, x1.1, x2.1, x3.1, x4.1]) (by simp)
      have by' : Rows.uptoBulk y.1 = Rows.uptoBulkAll [x0.1, x1.1, x2.1, x3.1, x4.1] + 1 := by rw [hy]; simp only [List.map_cons, List.map_nil, Rows.uptoBulk]
      have g2 : Rows.uptoBulk x2.1 = s2.data.toList.length + 1 := by rw [r2]; simp only [Rows.uptoBulk]
      have g3 : Rows.uptoBulk x3.1 = s3.data.toList.length + 1 := by rw [r3]; simp only [Rows.uptoBulk]
      have g4 : Rows.uptoBulk x4.1 = s4.data.toList.length + 1 := by rw [r4]; simp only [Rows.uptoBulk]
      refine ⟨⟨kind, nn, s2, s3, s4⟩, rfl, ⟨⟨by simp only; omega, by simp only; omega, by simp only; omega⟩, hb.1, hb.2⟩, ?_, ?_, ?_⟩
      all_goals simp only; omega

set_option maxRecDepth 20000 in
theorem const_of_trod {H : Type} {enc : TypeId × Value → H} {W : World} {fuel g o : Nat} {y : DataW H × List MemPlace}
    (h : (W.cells? 0 ⟨g, o, none⟩ 5).bind (DataW.trod enc Tryz.prog W 0 (fun _ => true) true fuel 85) = some y) : ∃ c, CAt W g o c ∧ c.Ok ∧ c.cls.size ≤ Rows.uptoBulk y.1 ∧ c.nm.size ≤ Rows.uptoBulk y.1 ∧ c.dsc.size ≤ Rows.uptoBulk y.1 := by
  obtain ⟨cs, hcs, ht⟩ := Option.bind_eq_some_iff.1 h
  obtain ⟨c, rfl, hk, hz⟩ := const_of_cells ht
  have hc : ∀ (j : Nat) (u : Value), c.cells[j]? = some u → W.cell? ⟨g, o + j, none⟩ = some u := by
    intro j u hj
    have hj5 : j < 5 := by have := (List.getElem?_eq_some_iff.1 hj).1; simpa [CD.cells] using this
    unfold World.cells? at hcs
    rw [if_pos (Nat.zero_le _)] at hcs
    obtain ⟨b, hb, hf⟩ := Lib.mapM_at hcs j j (by simp [hj5])
    rw [hb] at hj
    cases hj
    rwa [addr_add] at hf
  exact ⟨c, ⟨by simpa using hc 0 _ rfl, hc 1 _ rfl, hc 2 _ rfl, hc 3 _ rfl, hc 4 _ rfl⟩, hk, hz⟩

set_option maxRecDepth 20000 in
theorem open_consts {H : Type} {enc : TypeId × Value → H} {W : World} {base : Nat} {v : Value} {d : DataW H} {p : List MemPlace} (hval : Value.okWide Tryz.prog W .any base 29 v)
    (h : DataW.Trod enc Tryz.prog W 0 (fun _ => true) true 29 v d p) : ∃ l, CView W v l ∧ ∀ c ∈ l, c.cls.size ≤ Rows.uptoBulk d ∧ c.nm.size ≤ Rows.uptoBulk d ∧ c.dsc.size ≤ Rows.uptoBulk d := by
  obtain ⟨a, len, cap, rfl⟩ := okWide_slice Tryz.underlying29 hval
  obtain ⟨fuel, hf⟩ := h
  rcases DataW.trod_slice Tryz.underlying29 hf with ⟨hcs, hx⟩ | ⟨x, l, c, elems, rest, n, _, hcs, hx, _, hl, hm, hel, hev, _, _⟩
  · simp [Value.cells] at hcs
    obtain ⟨rfl, rfl, rfl⟩ := hcs
    exact ⟨[], CView.nil W, by simp⟩
  · simp [Value.cells] at hcs
    obtain ⟨rfl, rfl, rfl⟩ := hcs
    have hd : d = .slice (elems.map (·.1)) (rest.map (·.1)) := by
      have := congrArg Prod.fst hx
      simpa using this
    have hbd : Rows.uptoBulkAll (elems.map (·.1)) ≤ Rows.uptoBulk d := by rw [hd]; simp only [Rows.uptoBulk]; omega
    by_cases h0 : len = 0
    · subst h0
      exact ⟨[], ⟨some x, cap, rfl, Nat.zero_le _, hm, by simp, .inl rfl⟩, by simp⟩
    · obtain ⟨b, o, sp⟩ := x
      have hsp : sp = none := by
        have h1 := hev 0 (by omega)
        rw [List.getElem?_eq_getElem (by omega)] at h1
        obtain ⟨cs, hcs, _⟩ := Option.bind_eq_some_iff.1 h1
        unfold World.cells? at hcs
        rw [if_pos (Nat.zero_le _)] at hcs
        obtain ⟨q, _, hq⟩ := Lib.mapM_at hcs 0 0 (by rw [cells30]; rfl)
        have e : ((⟨b, o, sp⟩ : Addr).add (0 * Tryz.prog.cellsOf 85)).add 0 = ⟨b, o, sp⟩ := by simp [Addr.add]
        rw [e] at hq
        exact cell_spot hq
      subst hsp
      have hone : ∀ i, i < len → ∃ q, CAt W b (o + i * 5) q ∧ q.Ok ∧ q.cls.size ≤ Rows.uptoBulk d ∧ q.nm.size ≤ Rows.uptoBulk d ∧ q.dsc.size ≤ Rows.uptoBulk d := by
        intro i hi
        have h1 := hev i hi
        rw [List.getElem?_eq_getElem (by omega), cells30, addr_add] at h1
        have := bulk_mem (d := elems[i].1) (l := elems.map (·.1)) (List.mem_map.2 ⟨elems[i], by simp, rfl⟩)
        obtain ⟨q, q1, q2, q3, q4, q5⟩ := const_of_trod h1
        exact ⟨q, q1, q2, by omega, by omega, by omega⟩
      have hch : ∃ f : Nat → CD, ∀ i, i < len → CAt W b (o + i * 5) (f i) ∧ (f i).Ok ∧ (f i).cls.size ≤ Rows.uptoBulk d ∧ (f i).nm.size ≤ Rows.uptoBulk d ∧ (f i).dsc.size ≤ Rows.uptoBulk d :=
        ⟨fun i => if h : i < len then Classical.choose (hone i h) else zeroC, fun i hi => by
          simp only [dif_pos hi]; exact Classical.choose_spec (hone i hi)⟩
      obtain ⟨f, hf'⟩ := hch
      refine ⟨(List.range len).map f, ⟨some ⟨b, o, none⟩, cap, by simp, by simpa using hl, hm, fun c hc => ?_, .inr ⟨b, o, rfl, fun i p hp => ?_⟩⟩, fun c hc => ?_⟩
      · obtain ⟨i, hi, rfl⟩ := List.mem_map.1 hc
        exact (hf' i (List.mem_range.1 hi)).2.1
      · simp only [List.getElem?_map, Option.map_eq_some_iff] at hp
        obtain ⟨j, hj, rfl⟩ := hp
        have hjl : i < len := by have := (List.getElem?_eq_some_iff.1 hj).1; simpa using this
        rw [List.getElem?_range hjl] at hj
        cases hj
        exact (hf' i hjl).1
      · obtain ⟨i, hi, rfl⟩ := List.mem_map.1 hc
        exact (hf' i (List.mem_range.1 hi)).2.2
end Go.Proofs.YthagaldpopnoeaaGreatDoor
