/- How a list of Parts that came in is seen by the walks. -/
import Derived.Test.YtnnoifofgbibmaaDoorOp
namespace Go.Proofs.YtnnoifofgbibmaaDoor
open Go.ChangeShapes Go.WideShapes Go.ChangeAt Go.RowKit
open Go.ChangeMaps (open_string shut_string)

theorem cells49 : Tryd.prog.cellsOf 49 = 5 := by kernel_rfl
theorem cells3 : Tryd.prog.cellsOf 3 = 1 := by kernel_rfl
theorem cells2 : Tryd.prog.cellsOf 2 = 1 := by kernel_rfl
theorem cells9 : Tryd.prog.cellsOf 9 = 1 := by kernel_rfl
theorem cells25 : Tryd.prog.cellsOf 25 = 1 := by kernel_rfl

theorem bytes_of_trod {H : Type} {enc : TypeId × Value → H} {W : World} {fuel : Nat} {v : Value} {y : DataW H × List MemPlace}
    (hf : DataW.trod enc Tryd.prog W 0 (fun _ => true) true fuel 25 [v] = some y) : ∃ lb, View W v lb ∧ lb.length + 1 ≤ Rows.uptoBulk y.1 := by
  rcases open_ints Tryd.underlying25 Tryd.underlying5 c5 hf with ⟨hcs, hx⟩ | ⟨x, len, cap, zs, hcs, _, hl, hm, hz, hx, hcell, hwz⟩
  · simp at hcs
    subst hcs
    refine ⟨[], View.empty W, ?_⟩
    rw [hx]; simp [Rows.uptoBulk]
  · simp at hcs
    subst hcs
    have hzl : zs.length = cap := by simpa using hz
    refine ⟨zs.take len, ⟨some x, cap, ?_, ?_, hm, ?_, ?_⟩, ?_⟩
    · rw [List.length_take, Nat.min_eq_left (by omega)]
    · rw [List.length_take]; omega
    · intro y hy
      have := hwz y (List.mem_of_mem_take hy)
      have := bounds_u8 this
      omega
    · by_cases h0 : len = 0
      · left; simp [h0]
      · right
        have h00 := hcell 0 (by omega)
        obtain ⟨b, o, sp⟩ := x
        have hsp : sp = none := by
          have e : (⟨b, o, sp⟩ : Addr).add 0 = ⟨b, o, sp⟩ := by unfold Addr.add; simp
          rw [e] at h00
          exact cell_spot h00
        subst hsp
        refine ⟨b, o, rfl, fun j y hj => ?_⟩
        have hj1 : j < len := by
          have := (List.getElem?_eq_some_iff.1 hj).1
          simp at this; omega
        have hj2 : zs[j]? = some y := by rwa [List.getElem?_take_of_lt hj1] at hj
        have hc := hcell j (by omega)
        have e : (⟨b, o, none⟩ : Addr).add j = ⟨b, o + j, none⟩ := by unfold Addr.add; split <;> simp_all
        rw [e] at hc
        rw [hc]
        simp [List.getD, hj2]
    · rw [hx]
      have h1 := bulk_len (lits (H := H) .u8 (zs.take len))
      simp only [Rows.uptoBulk]
      simp only [lits, List.length_map] at h1 ⊢
      omega

/-- One Part: its numbers, its text, its bytes. -/
structure PartD where
  kind : Int
  bytes : Int
  n : Int
  s : ByteArray
  vr : Value
  lr : List Int
/-- It lies from o on in block g. -/
structure PartAt (W : World) (g o : Nat) (p : PartD) : Prop where
  c0 : W.cell? ⟨g, o, none⟩ = some (.int .i64 p.kind)
  c1 : W.cell? ⟨g, o + 1, none⟩ = some (.int .i64 p.bytes)
  c2 : W.cell? ⟨g, o + 2, none⟩ = some (.int .i64 p.n)
  c3 : W.cell? ⟨g, o + 3, none⟩ = some (.string p.s)
  c4 : W.cell? ⟨g, o + 4, none⟩ = some p.vr
  raw : View W p.vr p.lr
  nlo : -9223372036854775808 ≤ p.n
  nhi : p.n ≤ 9223372036854775807
  ssz : p.s.size ≤ 1048576
  rsz : p.lr.length ≤ 1048576

/-- A list of Parts. -/
def Parts (W : World) (v : Value) (ps : List PartD) : Prop :=
  ∃ ao cap, v = .slice ao ps.length cap ∧ ps.length ≤ cap ∧ cap ≤ maxLen ∧ (ps = [] ∨ ∃ g off, ao = some ⟨g, off, none⟩ ∧ ∀ i p, ps[i]? = some p → PartAt W g (off + i * 5) p)

theorem bulk_mem {H : Type} {d : DataW H} : ∀ {l : List (DataW H)}, d ∈ l → Rows.uptoBulk d ≤ Rows.uptoBulkAll l
  | x :: r, h => by
    simp only [Rows.uptoBulkAll]
    rcases List.mem_cons.1 h with rfl | h'
    · omega
    · have := bulk_mem h'; omega

theorem part_of_trod {H : Type} {enc : TypeId × Value → H} {W : World} {fuel g o : Nat} {y : DataW H × List MemPlace}
    (h : (W.cells? 0 ⟨g, o, none⟩ 5).bind (DataW.trod enc Tryd.prog W 0 (fun _ => true) true fuel 49) = some y) (hbk : Rows.uptoBulk y.1 ≤ 1048576) : ∃ p, PartAt W g o p := by
  obtain ⟨cs, hcs, ht⟩ := Option.bind_eq_some_iff.1 h
  obtain ⟨xs, n, -, hy, hl, hxl, hall⟩ := DataW.trod_struct Tryd.underlying49 ht
  rw [cells49] at hl
  have hxl5 : xs.length = 5 := by simpa using hxl
  match cs, hl with
  | [k0, k1, k2, k3, k4], _ =>
    match xs, hxl5 with
    | [x0, x1, x2, x3, x4], _ =>
      have t0' : DataW.trod enc Tryd.prog W 0 (fun _ => true) true n 3 [k0] = some x0 := by simpa [cells3] using hall 0 _ rfl
      have t1' : DataW.trod enc Tryd.prog W 0 (fun _ => true) true n 3 [k1] = some x1 := by simpa [cells3] using hall 1 _ rfl
      have t2' : DataW.trod enc Tryd.prog W 0 (fun _ => true) true n 2 [k2] = some x2 := by simpa [cells2] using hall 2 _ rfl
      have t3' : DataW.trod enc Tryd.prog W 0 (fun _ => true) true n 9 [k3] = some x3 := by simpa [cells9] using hall 3 _ rfl
      have t4' : DataW.trod enc Tryd.prog W 0 (fun _ => true) true n 25 [k4] = some x4 := by simpa [cells25] using hall 4 _ rfl
      obtain ⟨kind, e0, r0, -⟩ := DataW.trod_int Tryd.underlying3 t0'
      obtain ⟨bytes, e1, r1, -⟩ := DataW.trod_int Tryd.underlying3 t1'
      obtain ⟨nn, e2, r2, w2⟩ := DataW.trod_int Tryd.underlying2 t2'
      obtain ⟨s, e3, r3, -⟩ := DataW.trod_string Tryd.underlying9 t3'
      obtain ⟨lr, hV, hlr⟩ := bytes_of_trod t4'
      simp only [List.cons.injEq, and_true] at e0 e1 e2 e3
      subst e0 e1 e2 e3
      have hc : ∀ (j : Nat) (c : Value), [Value.int .i64 kind, .int .i64 bytes, .int .i64 nn, .string s, k4][j]? = some c → W.cell? ⟨g, o + j, none⟩ = some c := by
        intro j c hj
        have hj5 : j < 5 := by have := (List.getElem?_eq_some_iff.1 hj).1; simpa using this
        unfold World.cells? at hcs
        rw [if_pos (Nat.zero_le _)] at hcs
        obtain ⟨b, hb, hf⟩ := Lib.mapM_at hcs j j (by simp [hj5])
        rw [hb] at hj
        cases hj
        have e : (⟨g, o, none⟩ : Addr).add j = ⟨g, o + j, none⟩ := by unfold Addr.add; split <;> simp_all
        rwa [e] at hf
      rw [hy] at hbk
      have b3 : Rows.uptoBulk x3.1 ≤ 1048576 := by
        have := bulk_mem (d := x3.1) (l := [x0.1, x1.1, x2.1, x3.1, x4.1]) (by simp)
        simp only [List.map_cons, List.map_nil, Rows.uptoBulk] at hbk; omega
      have b4 : Rows.uptoBulk x4.1 ≤ 1048576 := by
        have := bulk_mem (d := x4.1) (l := [x0.1, x1.1, x2.1, x3.1, x4.1]) (by simp)
        simp only [List.map_cons, List.map_nil, Rows.uptoBulk] at hbk; omega
      rw [r3] at b3
      simp only [Rows.uptoBulk] at b3
      have hss := Lib.size_eq s
      have hbn := bounds_i64 w2
      exact ⟨⟨kind, bytes, nn, s, k4, lr⟩, by simpa using hc 0 _ rfl, hc 1 _ rfl, hc 2 _ rfl, hc 3 _ rfl, hc 4 _ rfl, hV, by simp only; omega, by simp only; omega, by simp only; omega, by simp only; omega⟩

theorem open_parts {H : Type} {enc : TypeId × Value → H} {W : World} {base : Nat} {v : Value} {d : DataW H} {p : List MemPlace} (hval : Value.okWide Tryd.prog W .any base 47 v)
    (h : DataW.Trod enc Tryd.prog W 0 (fun _ => true) true 47 v d p) (hbk : Rows.uptoBulk d ≤ 1048576) : ∃ ps, Parts W v ps := by
  obtain ⟨a, len, cap, rfl⟩ := okWide_slice Tryd.underlying47 hval
  obtain ⟨fuel, hf⟩ := h
  rcases DataW.trod_slice Tryd.underlying47 hf with ⟨hcs, hx⟩ | ⟨x, l, c, elems, rest, n, _, hcs, hx, _, hl, hm, hel, hev, _, _⟩
  · simp [Value.cells] at hcs
    obtain ⟨rfl, rfl, rfl⟩ := hcs
    exact ⟨[], none, 0, rfl, Nat.le_refl _, by unfold maxLen; omega, .inl rfl⟩
  · simp [Value.cells] at hcs
    obtain ⟨rfl, rfl, rfl⟩ := hcs
    have hd : d = .slice (elems.map (·.1)) (rest.map (·.1)) := by
      have := congrArg Prod.fst hx
      simpa using this
    rw [hd] at hbk
    simp only [Rows.uptoBulk] at hbk
    by_cases h0 : len = 0
    · subst h0
      exact ⟨[], some x, cap, rfl, Nat.zero_le _, hm, .inl rfl⟩
    · obtain ⟨b, o, sp⟩ := x
      have hsp : sp = none := by
        have h1 := hev 0 (by omega)
        rw [List.getElem?_eq_getElem (by omega)] at h1
        obtain ⟨cs, hcs, _⟩ := Option.bind_eq_some_iff.1 h1
        unfold World.cells? at hcs
        rw [if_pos (Nat.zero_le _)] at hcs
        obtain ⟨q, _, hq⟩ := Lib.mapM_at hcs 0 0 (by rw [cells49]; rfl)
        have e : ((⟨b, o, sp⟩ : Addr).add (0 * Tryd.prog.cellsOf 49)).add 0 = ⟨b, o, sp⟩ := by simp [Addr.add]
        rw [e] at hq
        exact cell_spot hq
      subst hsp
      have hone : ∀ i, i < len → ∃ q, PartAt W b (o + i * 5) q := by
        intro i hi
        have h1 := hev i hi
        rw [List.getElem?_eq_getElem (by omega), cells49] at h1
        have e : (⟨b, o, none⟩ : Addr).add (i * 5) = ⟨b, o + i * 5, none⟩ := by unfold Addr.add; split <;> simp_all
        rw [e] at h1
        refine part_of_trod h1 ?_
        have := bulk_mem (d := elems[i].1) (l := elems.map (·.1)) (List.mem_map.2 ⟨elems[i], by simp, rfl⟩)
        omega
      have hch : ∃ f : Nat → PartD, ∀ i, i < len → PartAt W b (o + i * 5) (f i) :=
        ⟨fun i => if h : i < len then Classical.choose (hone i h) else ⟨0, 0, 0, .empty, .slice none 0 0, []⟩, fun i hi => by
          simp only [dif_pos hi]; exact Classical.choose_spec (hone i hi)⟩
      obtain ⟨f, hf'⟩ := hch
      refine ⟨(List.range len).map f, some ⟨b, o, none⟩, cap, by simp, by simpa using hl, hm, .inr ⟨b, o, rfl, fun i p hp => ?_⟩⟩
      simp only [List.getElem?_map, Option.map_eq_some_iff] at hp
      obtain ⟨j, hj, rfl⟩ := hp
      have hjl : i < len := by have := (List.getElem?_eq_some_iff.1 hj).1; simpa using this
      rw [List.getElem?_range hjl] at hj
      cases hj
      exact hf' i hjl
end Go.Proofs.YtnnoifofgbibmaaDoor
