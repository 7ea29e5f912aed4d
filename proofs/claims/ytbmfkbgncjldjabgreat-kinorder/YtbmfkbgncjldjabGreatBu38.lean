/- Texts QOp. -/
import Derived.Test.YtbmfkbgncjldjabGreatBu25
import Derived.Test.YtbmfkbgncjldjabGreatRows
import Derived.ProofKit
import Derived.OpenShut
import Derived.SliceStrings
import Derived.Lib.LaidU8
import Derived.ChangeOld
import Derived.Below
namespace Go.Proofs.YtbmfkbgncjldjabGreat.Q
open Go.ChangeShapes Go.WideShapes Go.ChangeAt Go.RowKit
open Go.ChangeMaps (open_string shut_string)

theorem cells3 : Tryz.prog.cellsOf 3 = 1 := by kernel_rfl
theorem cells5 : Tryz.prog.cellsOf 5 = 1 := by kernel_rfl
theorem cells9 : Tryz.prog.cellsOf 9 = 1 := by kernel_rfl
theorem cells21 : Tryz.prog.cellsOf 21 = 1 := by kernel_rfl
theorem cells30 : Tryz.prog.cellsOf 75 = 5 := by kernel_rfl
theorem celX4 : Tryz.prog.cellsOf 4 = 1 := by kernel_rfl
theorem celX22 : Tryz.prog.cellsOf 44 = 1 := by kernel_rfl
theorem celX23 : Tryz.prog.cellsOf 45 = 1 := by kernel_rfl
theorem celX24 : Tryz.prog.cellsOf 46 = 1 := by kernel_rfl
theorem celX29 : Tryz.prog.cellsOf 29 = 1 := by kernel_rfl
theorem celX30 : Tryz.prog.cellsOf 30 = 1 := by kernel_rfl
theorem celX31 : Tryz.prog.cellsOf 31 = 1 := by kernel_rfl
theorem celX72 : Tryz.prog.cellsOf 34 = 1 := by kernel_rfl
theorem celX63 : Tryz.prog.cellsOf 51 = 3 := by kernel_rfl
theorem celX71 : Tryz.prog.cellsOf 99 = 4 := by kernel_rfl
theorem celX74 : Tryz.prog.cellsOf 73 = 3 := by kernel_rfl
theorem celX26 : Tryz.prog.cellsOf 48 = 9 := by kernel_rfl
theorem celX33 : Tryz.prog.cellsOf 33 = 5 := by kernel_rfl
theorem cell_lt {W : World} {b o : Nat} {u : Value} (h : W.cell? ⟨b, o, none⟩ = some u) : b < W.heap.size := by
  apply Nat.lt_of_not_le
  intro hle
  have hn : W.heap[b]? = none := Array.getElem?_eq_none (by omega)
  simp [World.cell?, hn] at h
set_option maxRecDepth 20000 in
theorem trod_list {α : Type} {ST T k : Nat} {R : World → List Value → α → Prop} (hu : Tryz.prog.underlying ST = some (.slice T)) (hk : Tryz.prog.cellsOf T = k) (hk0 : 0 < k) {H : Type} {enc : TypeId × Value → H} {W : World} {fuel : Nat} {cs : List Value} {y : DataW H × List MemPlace}
    (one : ∀ (n : Nat) (cs' : List Value) (y' : DataW H × List MemPlace), DataW.trod enc Tryz.prog W 0 (fun _ => true) true n T cs' = some y' → ∃ x : α, R W cs' x)
    (ht : DataW.trod enc Tryz.prog W 0 (fun _ => true) true fuel ST cs = some y) : ∃ ao cap l, cs = [.slice ao (List.length l) cap] ∧ LAt k R W ao cap l := by
  rcases DataW.trod_slice hu ht with ⟨rfl, _⟩ | ⟨a, len, cap, elems, rest, n, _, rfl, _, _, hl, hm, hlen, hev, _, _⟩
  · exact ⟨none, 0, [], rfl, LAt.nil _ _ _ _ _ (Nat.zero_le _)⟩
  · by_cases h0 : len = 0
    · subst h0
      exact ⟨some a, cap, [], rfl, LAt.nil _ _ _ _ _ hm⟩
    · obtain ⟨b, o, sp⟩ := a
      rw [hk] at hev
      have hsp : sp = none := by
        have h1 := hev 0 (by omega)
        rw [List.getElem?_eq_getElem (by omega)] at h1
        obtain ⟨cs, hcs, _⟩ := Option.bind_eq_some_iff.1 h1
        unfold World.cells? at hcs
        rw [if_pos (Nat.zero_le _)] at hcs
        obtain ⟨q, _, hq⟩ := Lib.mapM_at hcs 0 0 (by rw [List.getElem?_range hk0])
        have e : ((⟨b, o, sp⟩ : Addr).add (0 * k)).add 0 = ⟨b, o, sp⟩ := by simp [Addr.add]
        rw [e] at hq
        exact cell_spot hq
      subst hsp
      have hone : ∀ i, i < len → ∃ p : List Value × α, R W p.1 p.2 ∧ ∀ j u, p.1[j]? = some u → W.cell? ⟨b, o + i * k + j, none⟩ = some u := by
        intro i hi
        have h1 := hev i hi
        rw [List.getElem?_eq_getElem (by omega), addr_add] at h1
        obtain ⟨cs, hcs, h2⟩ := Option.bind_eq_some_iff.1 h1
        obtain ⟨x, hx⟩ := one _ _ _ h2
        refine ⟨(cs, x), hx, fun j u hj => ?_⟩
        unfold World.cells? at hcs
        rw [if_pos (Nat.zero_le _)] at hcs
        have hjk : j < k := by
          have h3 := (List.getElem?_eq_some_iff.1 hj).1
          have h4 := Lib.mapM_length hcs
          simp only at h3
          simpa [h4] using h3
        obtain ⟨q, hq, hf⟩ := Lib.mapM_at hcs j j (by rw [List.getElem?_range hjk])
        simp only at hj
        rw [hq] at hj
        cases hj
        rwa [addr_add] at hf
      have hch : ∃ f : Nat → List Value × α, ∀ i, i < len → R W (f i).1 (f i).2 ∧ ∀ j u, (f i).1[j]? = some u → W.cell? ⟨b, o + i * k + j, none⟩ = some u :=
        ⟨fun i => if h : i < len then Classical.choose (hone i h) else Classical.choose (hone 0 (by omega)), fun i hi => by
          simp only [dif_pos hi]; exact Classical.choose_spec (hone i hi)⟩
      obtain ⟨f, hf⟩ := hch
      have hb : b < W.heap.size := by
        have h1 := hev 0 (by omega)
        rw [List.getElem?_eq_getElem (by omega), addr_add] at h1
        obtain ⟨cs, hcs, _⟩ := Option.bind_eq_some_iff.1 h1
        unfold World.cells? at hcs
        rw [if_pos (Nat.zero_le _)] at hcs
        obtain ⟨q, _, hq⟩ := Lib.mapM_at hcs 0 0 (by rw [List.getElem?_range hk0])
        rw [addr_add] at hq
        exact cell_lt hq
      refine ⟨some ⟨b, o, none⟩, cap, (List.range len).map (fun i => (f i).2), by simp, by simpa using hl, hm, fun i => (f i).1, fun _ => ⟨b, o, rfl, hb, fun j hj => (hf j (by simpa using hj)).2⟩, fun i x hx => ?_⟩
      simp only [List.getElem?_map, Option.map_eq_some_iff] at hx
      obtain ⟨j, hj, rfl⟩ := hx
      have hil : i < len := by have := (List.getElem?_eq_some_iff.1 hj).1; simpa using this
      rw [List.getElem?_range hil] at hj
      cases hj
      exact (hf i hil).1
set_option maxRecDepth 20000 in
theorem trod_bytes {H : Type} {enc : TypeId × Value → H} {W : World} {fuel : Nat} {cs : List Value} {y : DataW H × List MemPlace}
    (ht : DataW.trod enc Tryz.prog W 0 (fun _ => true) true fuel 44 cs = some y) : ∃ ao cap l, cs = [.slice ao (List.length l) cap] ∧ View W (.slice ao (List.length l) cap) l := by
  rcases open_ints Tryz.underlying44 Tryz.underlying5 cells5 ht with ⟨rfl, _⟩ | ⟨x, len, cap, zs, rfl, _, hl, hm, hz, _, hcell, hwz⟩
  · exact ⟨none, 0, [], rfl, none, 0, rfl, Nat.le_refl _, by unfold maxLen; omega, fun x hx => by simp at hx, .inl rfl⟩
  · have hzl : zs.length = cap := by simpa using hz
    have e0 : (zs.take len).length = len := by rw [List.length_take, Nat.min_eq_left (by omega)]
    refine ⟨some x, cap, zs.take len, by rw [e0], some x, cap, rfl, by rw [e0]; omega, hm, ?_, ?_⟩
    · intro y hy
      have := hwz y (List.mem_of_mem_take hy)
      have := bounds_u8 this
      omega
    · by_cases h0 : len = 0
      · left; simp [h0]
      · right
        have h00 := hcell 0 (by omega)
        obtain ⟨b, o, sp⟩ := x
        have hsp : sp = none := by
          have e : (⟨b, o, sp⟩ : Addr).add 0 = ⟨b, o, sp⟩ := by unfold Addr.add; simp
          rw [e] at h00
          exact cell_spot h00
        subst hsp
        refine ⟨b, o, rfl, fun j y hj => ?_⟩
        have hj1 : j < len := by
          have := (List.getElem?_eq_some_iff.1 hj).1
          simp at this; omega
        have hj2 : zs[j]? = some y := by rwa [List.getElem?_take_of_lt hj1] at hj
        have hc := hcell j (by omega)
        have e : (⟨b, o, none⟩ : Addr).add j = ⟨b, o + j, none⟩ := by unfold Addr.add; split <;> simp_all
        rw [e] at hc
        rw [hc]
        simp [List.getD, hj2]
set_option maxRecDepth 20000 in
theorem trod_text {H : Type} {enc : TypeId × Value → H} {W : World} (fuel : Nat) (cs : List Value) (y : DataW H × List MemPlace)
    (ht : DataW.trod enc Tryz.prog W 0 (fun _ => true) true fuel 9 cs = some y) : ∃ s : ByteArray, TextR W cs s := by
  obtain ⟨s, rfl, -, m⟩ := DataW.trod_string Tryz.underlying9 ht
  unfold maxLen at m
  exact ⟨s, rfl, m⟩
set_option maxRecDepth 20000 in
theorem trod_const {H : Type} {enc : TypeId × Value → H} {W : World} (fuel : Nat) (cs : List Value) (y : DataW H × List MemPlace)
    (ht : DataW.trod enc Tryz.prog W 0 (fun _ => true) true fuel 75 cs = some y) : ∃ c : CD, ConstR W cs c := by
  obtain ⟨xs, n, -, -, hl, hxl, hall⟩ := DataW.trod_struct Tryz.underlying75 ht
  rw [cells30] at hl
  have hxl5 : xs.length = 5 := by simpa using hxl
  match cs, hl with
  | [k0, k1, k2, k3, k4], _ =>
    match xs, hxl5 with
    | [x0, x1, x2, x3, x4], _ =>
      have t0' : DataW.trod enc Tryz.prog W 0 (fun _ => true) true n 3 [k0] = some x0 := by simpa [cells3] using hall 0 _ rfl
      have t1' : DataW.trod enc Tryz.prog W 0 (fun _ => true) true n 21 [k1] = some x1 := by simpa [cells21] using hall 1 _ rfl
      have t2' : DataW.trod enc Tryz.prog W 0 (fun _ => true) true n 9 [k2] = some x2 := by simpa [cells9] using hall 2 _ rfl
      have t3' : DataW.trod enc Tryz.prog W 0 (fun _ => true) true n 9 [k3] = some x3 := by simpa [cells9] using hall 3 _ rfl
      have t4' : DataW.trod enc Tryz.prog W 0 (fun _ => true) true n 9 [k4] = some x4 := by simpa [cells9] using hall 4 _ rfl
      obtain ⟨kind, e0, -, -⟩ := DataW.trod_int Tryz.underlying3 t0'
      obtain ⟨nn, e1, -, w1⟩ := DataW.trod_int Tryz.underlying21 t1'
      obtain ⟨s2, e2, -, m2⟩ := DataW.trod_string Tryz.underlying9 t2'
      obtain ⟨s3, e3, -, m3⟩ := DataW.trod_string Tryz.underlying9 t3'
      obtain ⟨s4, e4, -, m4⟩ := DataW.trod_string Tryz.underlying9 t4'
      simp only [List.cons.injEq, and_true] at e0 e1 e2 e3 e4
      subst e0 e1 e2 e3 e4
      unfold maxLen at m2 m3 m4
      have hb := bounds_i32 w1
      exact ⟨⟨kind, nn, s2, s3, s4⟩, rfl, ⟨m2, m3, m4⟩, hb.1, hb.2⟩
set_option maxRecDepth 20000 in
theorem trod_field {H : Type} {enc : TypeId × Value → H} {W : World} (fuel : Nat) (cs : List Value) (y : DataW H × List MemPlace)
    (ht : DataW.trod enc Tryz.prog W 0 (fun _ => true) true fuel 51 cs = some y) : ∃ x : FD, FieldR W cs x := by
  obtain ⟨xs, n, -, -, hl, hxl, hall⟩ := DataW.trod_struct Tryz.underlying51 ht
  rw [celX63] at hl
  have hxl5 : xs.length = 3 := by simpa using hxl
  match cs, hl with
  | [k0, k1, k2], _ =>
    match xs, hxl5 with
    | [x0, x1, x2], _ =>
      have t0 : DataW.trod enc Tryz.prog W 0 (fun _ => true) true n 9 [k0] = some x0 := by simpa [cells9] using hall 0 _ rfl
      have t1 : DataW.trod enc Tryz.prog W 0 (fun _ => true) true n 9 [k1] = some x1 := by simpa [cells9] using hall 1 _ rfl
      have t2 : DataW.trod enc Tryz.prog W 0 (fun _ => true) true n 4 [k2] = some x2 := by simpa [celX4] using hall 2 _ rfl
      obtain ⟨s0, e0, -, m0⟩ := DataW.trod_string Tryz.underlying9 t0
      obtain ⟨s1, e1, -, m1⟩ := DataW.trod_string Tryz.underlying9 t1
      obtain ⟨b2, e2, -⟩ := DataW.trod_bool Tryz.underlying4 t2
      simp only [List.cons.injEq, and_true] at e0 e1 e2
      subst e0 e1 e2
      unfold maxLen at m0 m1
      exact ⟨⟨s0, s1, b2⟩, rfl, m0, m1⟩
set_option maxRecDepth 20000 in
theorem trod_hand {H : Type} {enc : TypeId × Value → H} {W : World} (fuel : Nat) (cs : List Value) (y : DataW H × List MemPlace)
    (ht : DataW.trod enc Tryz.prog W 0 (fun _ => true) true fuel 99 cs = some y) : ∃ x : HD, HandR W cs x := by
  obtain ⟨xs, n, -, -, hl, hxl, hall⟩ := DataW.trod_struct Tryz.underlying99 ht
  rw [celX71] at hl
  have hxl5 : xs.length = 4 := by simpa using hxl
  match cs, hl with
  | [k0, k1, k2, k3], _ =>
    match xs, hxl5 with
    | [x0, x1, x2, x3], _ =>
      have t0 : DataW.trod enc Tryz.prog W 0 (fun _ => true) true n 3 [k0] = some x0 := by simpa [cells3] using hall 0 _ rfl
      have t1 : DataW.trod enc Tryz.prog W 0 (fun _ => true) true n 3 [k1] = some x1 := by simpa [cells3] using hall 1 _ rfl
      have t2 : DataW.trod enc Tryz.prog W 0 (fun _ => true) true n 3 [k2] = some x2 := by simpa [cells3] using hall 2 _ rfl
      have t3 : DataW.trod enc Tryz.prog W 0 (fun _ => true) true n 9 [k3] = some x3 := by simpa [cells9] using hall 3 _ rfl
      obtain ⟨n0, e0, -, -⟩ := DataW.trod_int Tryz.underlying3 t0
      obtain ⟨n1, e1, -, -⟩ := DataW.trod_int Tryz.underlying3 t1
      obtain ⟨n2, e2, -, -⟩ := DataW.trod_int Tryz.underlying3 t2
      obtain ⟨s3, e3, -, m3⟩ := DataW.trod_string Tryz.underlying9 t3
      simp only [List.cons.injEq, and_true] at e0 e1 e2 e3
      subst e0 e1 e2 e3
      unfold maxLen at m3
      exact ⟨⟨n0, n1, n2, s3⟩, rfl, m3⟩
set_option maxRecDepth 20000 in
theorem trod_frame {H : Type} {enc : TypeId × Value → H} {W : World} (fuel : Nat) (cs : List Value) (y : DataW H × List MemPlace)
    (ht : DataW.trod enc Tryz.prog W 0 (fun _ => true) true fuel 73 cs = some y) : ∃ x : RD, FrameR W cs x := by
  obtain ⟨xs, n, -, -, hl, hxl, hall⟩ := DataW.trod_struct Tryz.underlying73 ht
  rw [celX74] at hl
  have hxl5 : xs.length = 3 := by simpa using hxl
  match cs, hl with
  | [k0, k1, k2], _ =>
    match xs, hxl5 with
    | [x0, x1, x2], _ =>
      have t0 : DataW.trod enc Tryz.prog W 0 (fun _ => true) true n 3 [k0] = some x0 := by simpa [cells3] using hall 0 _ rfl
      have t1 : DataW.trod enc Tryz.prog W 0 (fun _ => true) true n 34 [k1] = some x1 := by simpa [celX72] using hall 1 _ rfl
      have t2 : DataW.trod enc Tryz.prog W 0 (fun _ => true) true n 34 [k2] = some x2 := by simpa [celX72] using hall 2 _ rfl
      obtain ⟨n0, e0, -, -⟩ := DataW.trod_int Tryz.underlying3 t0
      obtain ⟨ao1, c1, l1, e1, L1⟩ := trod_list (R := TextR) Tryz.underlying34 cells9 (by decide) trod_text t1
      obtain ⟨ao2, c2, l2, e2, L2⟩ := trod_list (R := TextR) Tryz.underlying34 cells9 (by decide) trod_text t2
      simp only [List.cons.injEq, and_true] at e0 e1 e2
      subst e0 e1 e2
      exact ⟨⟨n0, l1, l2⟩, ao1, c1, ao2, c2, rfl, L1, L2⟩
set_option maxRecDepth 20000 in
theorem trod_meth {H : Type} {enc : TypeId × Value → H} {W : World} (fuel : Nat) (cs : List Value) (y : DataW H × List MemPlace)
    (ht : DataW.trod enc Tryz.prog W 0 (fun _ => true) true fuel 48 cs = some y) : ∃ x : MD, MethR W cs x := by
  obtain ⟨xs, n, -, -, hl, hxl, hall⟩ := DataW.trod_struct Tryz.underlying48 ht
  rw [celX26] at hl
  have hxl5 : xs.length = 9 := by simpa using hxl
  match cs, hl with
  | [k0, k1, k2, k3, k4, k5, k6, k7, k8], _ =>
    match xs, hxl5 with
    | [x0, x1, x2, x3, x4, x5, x6, x7, x8], _ =>
      have t0 : DataW.trod enc Tryz.prog W 0 (fun _ => true) true n 9 [k0] = some x0 := by simpa [cells9] using hall 0 _ rfl
      have t1 : DataW.trod enc Tryz.prog W 0 (fun _ => true) true n 9 [k1] = some x1 := by simpa [cells9] using hall 1 _ rfl
      have t2 : DataW.trod enc Tryz.prog W 0 (fun _ => true) true n 4 [k2] = some x2 := by simpa [celX4] using hall 2 _ rfl
      have t3 : DataW.trod enc Tryz.prog W 0 (fun _ => true) true n 4 [k3] = some x3 := by simpa [celX4] using hall 3 _ rfl
      have t4 : DataW.trod enc Tryz.prog W 0 (fun _ => true) true n 3 [k4] = some x4 := by simpa [cells3] using hall 4 _ rfl
      have t5 : DataW.trod enc Tryz.prog W 0 (fun _ => true) true n 3 [k5] = some x5 := by simpa [cells3] using hall 5 _ rfl
      have t6 : DataW.trod enc Tryz.prog W 0 (fun _ => true) true n 44 [k6] = some x6 := by simpa [celX22] using hall 6 _ rfl
      have t7 : DataW.trod enc Tryz.prog W 0 (fun _ => true) true n 45 [k7] = some x7 := by simpa [celX23] using hall 7 _ rfl
      have t8 : DataW.trod enc Tryz.prog W 0 (fun _ => true) true n 46 [k8] = some x8 := by simpa [celX24] using hall 8 _ rfl
      obtain ⟨s0, e0, -, m0⟩ := DataW.trod_string Tryz.underlying9 t0
      obtain ⟨s1, e1, -, m1⟩ := DataW.trod_string Tryz.underlying9 t1
      obtain ⟨b2, e2, -⟩ := DataW.trod_bool Tryz.underlying4 t2
      obtain ⟨b3, e3, -⟩ := DataW.trod_bool Tryz.underlying4 t3
      obtain ⟨n4, e4, -, -⟩ := DataW.trod_int Tryz.underlying3 t4
      obtain ⟨n5, e5, -, -⟩ := DataW.trod_int Tryz.underlying3 t5
      obtain ⟨ao6, c6, l6, e6, L6⟩ := trod_bytes t6
      obtain ⟨ao7, c7, l7, e7, L7⟩ := trod_list (R := HandR) Tryz.underlying45 celX71 (by decide) trod_hand t7
      obtain ⟨ao8, c8, l8, e8, L8⟩ := trod_list (R := FrameR) Tryz.underlying46 celX74 (by decide) trod_frame t8
      simp only [List.cons.injEq, and_true] at e0 e1 e2 e3 e4 e5 e6 e7 e8
      subst e0 e1 e2 e3 e4 e5 e6 e7 e8
      unfold maxLen at m0 m1
      exact ⟨⟨s0, s1, b2, b3, n4, n5, l6, l7, l8⟩, ao6, c6, ao7, c7, ao8, c8, rfl, m0, m1, L6, L7, L8⟩
set_option maxRecDepth 20000 in
theorem trod_class {H : Type} {enc : TypeId × Value → H} {W : World} (fuel : Nat) (cs : List Value) (y : DataW H × List MemPlace)
    (ht : DataW.trod enc Tryz.prog W 0 (fun _ => true) true fuel 33 cs = some y) : ∃ x : KD, ClassV W (.agg cs.toArray) x := by
  obtain ⟨xs, n, -, -, hl, hxl, hall⟩ := DataW.trod_struct Tryz.underlying33 ht
  rw [celX33] at hl
  have hxl5 : xs.length = 5 := by simpa using hxl
  match cs, hl with
  | [k0, k1, k2, k3, k4], _ =>
    match xs, hxl5 with
    | [x0, x1, x2, x3, x4], _ =>
      have t0 : DataW.trod enc Tryz.prog W 0 (fun _ => true) true n 9 [k0] = some x0 := by simpa [cells9] using hall 0 _ rfl
      have t1 : DataW.trod enc Tryz.prog W 0 (fun _ => true) true n 9 [k1] = some x1 := by simpa [cells9] using hall 1 _ rfl
      have t2 : DataW.trod enc Tryz.prog W 0 (fun _ => true) true n 29 [k2] = some x2 := by simpa [celX29] using hall 2 _ rfl
      have t3 : DataW.trod enc Tryz.prog W 0 (fun _ => true) true n 30 [k3] = some x3 := by simpa [celX30] using hall 3 _ rfl
      have t4 : DataW.trod enc Tryz.prog W 0 (fun _ => true) true n 31 [k4] = some x4 := by simpa [celX31] using hall 4 _ rfl
      obtain ⟨s0, e0, -, m0⟩ := DataW.trod_string Tryz.underlying9 t0
      obtain ⟨s1, e1, -, m1⟩ := DataW.trod_string Tryz.underlying9 t1
      obtain ⟨ao2, c2, l2, e2, L2⟩ := trod_list (R := ConstR) Tryz.underlying29 cells30 (by decide) trod_const t2
      obtain ⟨ao3, c3, l3, e3, L3⟩ := trod_list (R := FieldR) Tryz.underlying30 celX63 (by decide) trod_field t3
      obtain ⟨ao4, c4, l4, e4, L4⟩ := trod_list (R := MethR) Tryz.underlying31 celX26 (by decide) trod_meth t4
      simp only [List.cons.injEq, and_true] at e0 e1 e2 e3 e4
      subst e0 e1 e2 e3 e4
      unfold maxLen at m0 m1
      exact ⟨⟨s0, s1, l2, l3, l4⟩, ao2, c2, ao3, c3, ao4, c4, by simp, m0, m1, L2, L3, L4⟩
set_option maxRecDepth 20000 in
theorem open_classes {H : Type} {enc : TypeId × Value → H} {W : World} {base : Nat} {v : Value} {d : DataW H} {p : List MemPlace} (hval : Value.okWide Tryz.prog W .any base 22 v)
    (h : DataW.Trod enc Tryz.prog W 0 (fun _ => true) true 22 v d p) : ∃ ao c ks, v = .slice ao (List.length ks) c ∧ LAt 5 (fun w r k => ClassV w (.agg r.toArray) k) W ao c ks := by
  obtain ⟨a, len, cap, rfl⟩ := okWide_slice Tryz.underlying22 hval
  obtain ⟨fuel, hf⟩ := h
  obtain ⟨ao, c, l, e, hl⟩ := trod_list (R := fun w r k => ClassV w (.agg r.toArray) k) Tryz.underlying22 celX33 (by decide) (fun n cs y ht => trod_class n cs y ht) hf
  simp [Value.cells] at e
  obtain ⟨rfl, rfl, rfl⟩ := e
  exact ⟨_, _, l, rfl, hl⟩
set_option maxRecDepth 20000 in
theorem open_nums {H : Type} {enc : TypeId × Value → H} {W : World} {base : Nat} {v : Value} {d : DataW H} {p : List MemPlace} (hval : Value.okWide Tryz.prog W .any base 23 v)
    (h : DataW.Trod enc Tryz.prog W 0 (fun _ => true) true 23 v d p) : ∃ rl : List Int, ∃ ao cap, v = .slice ao rl.length cap ∧ rl.length ≤ cap ∧ cap ≤ maxLen ∧ (∀ x ∈ rl, -9223372036854775808 ≤ x ∧ x ≤ 9223372036854775807) ∧ (rl = [] ∨ ∃ g off, ao = some ⟨g, off, none⟩ ∧ g < W.heap.size ∧ g < W.heap.size ∧ ∀ (j : Nat) x, rl[j]? = some x → W.cell? ⟨g, off + j, none⟩ = some (.int .i64 x)) := by
  obtain ⟨a, len, cap, rfl⟩ := okWide_slice Tryz.underlying23 hval
  obtain ⟨fuel, hf⟩ := h
  rcases open_ints Tryz.underlying23 Tryz.underlying3 cells3 hf with ⟨hcs, hx⟩ | ⟨x, l, c, zs, hcs, _, hl, hm, hz, hx, hcell, hwz⟩
  · simp [Value.cells] at hcs
    obtain ⟨rfl, rfl, rfl⟩ := hcs
    exact ⟨[], none, 0, rfl, Nat.le_refl _, by unfold maxLen; omega, by simp, .inl rfl⟩
  · simp [Value.cells] at hcs
    obtain ⟨rfl, rfl, rfl⟩ := hcs
    have hzl : zs.length = cap := by simpa using hz
    refine ⟨zs.take len, some x, cap, ?_, ?_, hm, fun y hy => bounds_i64 (hwz y (List.mem_of_mem_take hy)), ?_⟩
    · rw [List.length_take, Nat.min_eq_left (by omega)]
    · rw [List.length_take]; omega
    · by_cases h0 : len = 0
      · left; simp [h0]
      · right
        have h00 := hcell 0 (by omega)
        obtain ⟨b, o, sp⟩ := x
        have hsp : sp = none := by
          have e : (⟨b, o, sp⟩ : Addr).add 0 = ⟨b, o, sp⟩ := by unfold Addr.add; simp
          rw [e] at h00
          exact cell_spot h00
        subst hsp
        have hb : b < W.heap.size := by
          have e : (⟨b, o, none⟩ : Addr).add 0 = ⟨b, o, none⟩ := by unfold Addr.add; simp
          rw [e] at h00
          exact cell_lt h00
        refine ⟨b, o, rfl, hb, hb, fun j y hj => ?_⟩
        have hj1 : j < len := by
          have := (List.getElem?_eq_some_iff.1 hj).1
          simp at this; omega
        have hj2 : zs[j]? = some y := by rwa [List.getElem?_take_of_lt hj1] at hj
        have hc := hcell j (by omega)
        have e : (⟨b, o, none⟩ : Addr).add j = ⟨b, o + j, none⟩ := by unfold Addr.add; split <;> simp_all
        rw [e] at hc
        rw [hc]
        simp [List.getD, hj2]
end Go.Proofs.YtbmfkbgncjldjabGreat.Q
