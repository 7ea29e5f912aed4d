/- The members' fields and methods, by name and descriptor. -/
import Derived.Test.YtknppdpcgdncdaaKM
namespace Go.Proofs.Ytknppdpcgdncdaa.K
open Go.RowKit Go.Shelf Go.Lib Go.Proofs Q Q.D

/-- The number of the first one, or -1. -/
def IxN (n : Nat) (p : Nat → Bool) (r : Int) : Prop := (∃ k : Nat, r = k ∧ k < n ∧ p k = true ∧ ∀ j, j < k → p j = false) ∨ (r = -1 ∧ ∀ j, j < n → p j = false)
def ixZ {α : Type} (l : List α) (q : α → Bool) : Int := match l.findIdx? q with | some j => (j : Int) | none => -1
theorem ixN_list {α : Type} (l : List α) (p : Nat → Bool) (q : α → Bool) (r : Int) (h : ∀ i x, l[i]? = some x → p i = q x) (hr : IxN l.length p r) : r = ixZ l q := by
  unfold ixZ
  rcases hr with ⟨k, rfl, hk, hp, hb⟩ | ⟨rfl, hb⟩
  · have : l.findIdx? q = some k := by
      rw [List.findIdx?_eq_some_iff_getElem]
      refine ⟨hk, by rw [← h k l[k] (List.getElem?_eq_getElem hk)]; exact hp, fun j hj => ?_⟩
      rw [← h j l[j] (List.getElem?_eq_getElem (by omega)), hb j hj]
      simp
    rw [this]
  · have : l.findIdx? q = none := by
      rw [List.findIdx?_eq_none_iff]
      intro x hx
      obtain ⟨i, hi⟩ := List.getElem?_of_mem hx
      rw [← h i x hi]
      exact hb i (List.getElem?_eq_some_iff.1 hi).1
    rw [this]
section
variable {P : Program} {ρ : Ren}
set_option maxHeartbeats 2000000 in
theorem idxX (L : SlLaysH0.n6 P ρ) (k : Nat) (aE : ∀ w, (isAgg (ρ.t 23)).run P w = .ok true w) (zE : ∀ w, (Go.sizeOf (ρ.t 23)).run P w = .ok k w) (rows : Nat → List Value) (n : Nat) (hk : ∀ x, x < n → (rows x).length = k)
    (p : Nat → Bool) (g : Nat) (lb : Array Value) (eg : ∀ args w, (callFunc g args).run P w = .ok (.enter g args) w) (ao : Option Addr) (c : Nat) (w : World)
    (hp : ∀ (W : World) (j : Nat), j < n → Below w.heap.size w W → Calls P g (#[.agg (rows j).toArray] ++ lb) W fun e w' => e = .returned (.bool (p j)) ∧ Below w.heap.size w w') (hbig : n ≤ 9223372036854775807)
    (hc : 0 < n → ∃ b off, ao = some ⟨b, off, none⟩ ∧ b < w.heap.size ∧ ∀ j, j < n → ∀ i v, (rows j)[i]? = some v → w.cell? ⟨b, off + j * k + i, none⟩ = some v) :
    Calls P (ρ.f 6) #[.slice ao n c, .func (.func g) #[] lb] w fun e w' => (∃ r : Int, e = .returned (.int .i64 r) ∧ IxN n p r) ∧ Below w.heap.size w w' := by
  have mixed := L.mixed; have t0 := L.t0; have a0 := L.a0; have z0 := L.z0; have v0 := L.v0; have t3 := L.t3; have a3 := L.a3; have z3 := L.z3; have v3 := L.v3; have t4 := L.t4; have a4 := L.a4; have z4 := L.z4; have v4 := L.v4; have t22 := L.t22; have a22 := L.a22; have z22 := L.z22; have v22 := L.v22; have t25 := L.t25; have a25 := L.a25; have z25 := L.z25; have v25 := L.v25
  have hrow : ∀ (W : World), Below w.heap.size w W → ∀ j, j < n → ∃ b off, ao = some ⟨b, off, none⟩ ∧ Sem.run P (loadCellsFrom ⟨b, off + j * k, none⟩ 0 k #[]) W = .ok (rows j).toArray W := fun W hW j hj => by
    obtain ⟨b, off, e, hb, hc⟩ := hc (by omega)
    refine ⟨b, off, e, run_loadCellsFrom_list P _ _ (rows j) k (hk _ hj) (fun i v hi => ?_)⟩
    rw [Addr.add_lit, hW.cell (p := ⟨b, off + j * k + i, none⟩) hb]
    exact hc j hj i v hi
  clear hc
  obtain ⟨_, _, FG⟩ := L.f6
  go_enter FG, SlBodyH.n6_ntmps ρ
  go_wp2
  go_loopg [5, 8] n (fun gg _ s8 wr => ∃ kk : Nat, kk ≤ n ∧ n - kk ≤ gg ∧ s8 = .int .i64 kk ∧ Aside (Below w.heap.size w wr) ∧ Aside (∀ j, j < kk → p j = false))
  case atStart => exact ⟨0, Nat.zero_le _, by omega, rfl, Below.refl _ w, fun j hj => absurd hj (Nat.not_lt_zero _)⟩
  case round =>
    obtain ⟨kk, hkk, hg, rfl, BW, A⟩ := hrel
    by_cases hlt : kk < n
    · have hltz : (kk : Int) < (n : Int) := by omega
      obtain ⟨b, off, rfl, l2⟩ := hrow wr BW.out kk (by omega)
      have hcall := hp wr kk hlt BW.out
      clear hrow hp
      cases hq : p kk with
      | true =>
        rw [hq] at hcall
        go_wp2_with (go_at_fn g; refine hcall.mono ?_; rintro e w' ⟨rfl, hb'⟩)
        go_ret
        refine ⟨⟨_, rfl, ?_⟩, hb'⟩
        exact .inl ⟨kk, rfl, hlt, hq, A.out⟩
      | false =>
        rw [hq] at hcall
        go_wp2_with (go_at_fn g; refine hcall.mono ?_; rintro e w' ⟨rfl, hb'⟩)
        go_roundg (n - (kk + 1))
        case measure => omega
        case rel =>
          refine ⟨kk + 1, by omega, by omega, by go_num, hb', (show Aside _ from fun j hj => ?_)⟩
          by_cases e : j = kk
          · subst e
            exact hq
          · exact A.out j (by omega)
    · have hltz : ¬ (kk : Int) < (n : Int) := by omega
      have : kk = n := by omega
      subst this
      go_wp2
      go_ret
      refine ⟨⟨_, rfl, ?_⟩, BW.out⟩
      exact .inr ⟨rfl, A.out⟩

end
def isF (nm ds : ByteArray) (f : FD) : Bool := (f.nm.toList == nm.toList) && (f.ds.toList == ds.toList)
def isM (nm ds : ByteArray) (m : MD) : Bool := (m.nm.toList == nm.toList) && (m.ds.toList == ds.toList)

set_option maxRecDepth 8000 in
set_option maxHeartbeats 1000000 in
theorem cloField (f : FD) (nm ds : ByteArray) (B1 B2 : Nat) (w : World) (c0 : w.cell? ⟨B1, 0, none⟩ = some (.string nm)) (c1 : w.cell? ⟨B2, 0, none⟩ = some (.string ds)) :
    Calls Try.prog 54 #[.agg #[.string f.nm, .string f.ds, .bool f.st], .pointer (some ⟨B1, 0, none⟩), .pointer (some ⟨B2, 0, none⟩)] w fun e w' => e = .returned (.bool (isF nm ds f)) ∧ Below w.heap.size w w' := by
  have B0 := balloc w (.cells #[.string f.nm, .string f.ds, .bool f.st] 36)
  have h0 := cell_later B0 c0
  have h1 := cell_later B0 c1
  unfold isF
  obtain ⟨fn, fd, st⟩ := f
  simp only at *
  cases e1 : fn.toList == nm.toList
  · go_enter Try.func54, Try.ntmps54
    go_wp2
    go_ret
    exact ⟨rfl, B0⟩
  · cases e2 : fd.toList == ds.toList <;>
    · go_enter Try.func54, Try.ntmps54
      go_wp2
      go_ret
      exact ⟨rfl, B0⟩

set_option maxRecDepth 8000 in
set_option maxHeartbeats 1000000 in
theorem cloMeth (m : MD) (o1 : Option Addr) (n1 k1 : Nat) (o2 : Option Addr) (n2 k2 : Nat) (o3 : Option Addr) (n3 k3 : Nat) (nm ds : ByteArray) (B1 B2 : Nat) (w : World) (c0 : w.cell? ⟨B1, 0, none⟩ = some (.string nm)) (c1 : w.cell? ⟨B2, 0, none⟩ = some (.string ds)) :
    Calls Try.prog 56 #[.agg #[.string m.nm, .string m.ds, .bool m.st, .bool m.nat, .int .i64 m.stk, .int .i64 m.loc, .slice o1 n1 k1, .slice o2 n2 k2, .slice o3 n3 k3], .pointer (some ⟨B1, 0, none⟩), .pointer (some ⟨B2, 0, none⟩)] w fun e w' => e = .returned (.bool (isM nm ds m)) ∧ Below w.heap.size w w' := by
  have B0 := balloc w (.cells #[.string m.nm, .string m.ds, .bool m.st, .bool m.nat, .int .i64 m.stk, .int .i64 m.loc, .slice o1 n1 k1, .slice o2 n2 k2, .slice o3 n3 k3] 41)
  have h0 := cell_later B0 c0
  have h1 := cell_later B0 c1
  unfold isM
  obtain ⟨fn, fd, st, nat, stk, loc, code, hs, rs⟩ := m
  simp only at *
  cases e1 : fn.toList == nm.toList
  · go_enter Try.func56, Try.ntmps56
    go_wp2
    go_ret
    exact ⟨rfl, B0⟩
  · cases e2 : fd.toList == ds.toList <;>
    · go_enter Try.func56, Try.ntmps56
      go_wp2
      go_ret
      exact ⟨rfl, B0⟩

theorem ixField (nm ds : ByteArray) (B1 B2 : Nat) (ao : Option Addr) (c : Nat) (l : List FD) (w : World) (h : LAt 3 FieldR w ao c l) (c0 : w.cell? ⟨B1, 0, none⟩ = some (.string nm)) (c1 : w.cell? ⟨B2, 0, none⟩ = some (.string ds)) :
    Calls Try.prog 53 #[.slice ao l.length c, .func (.func 54) #[] #[.pointer (some ⟨B1, 0, none⟩), .pointer (some ⟨B2, 0, none⟩)]] w fun e w' => e = .returned (.int .i64 (ixZ l (isF nm ds))) ∧ Below w.heap.size w w' := by
  have hbig := h.big
  obtain ⟨h1, h2, rows, h3, h4⟩ := h
  refine (idxX { Try.hasF with } 3 Try.isAgg36 Try.sizeOf36 rows l.length (fun j hj => by rw [(h4 j l[j] (List.getElem?_eq_getElem hj)).1]; rfl) (fun j => isF nm ds (l.getD j ⟨⟨#[]⟩, ⟨#[]⟩, false⟩)) 54 #[.pointer (some ⟨B1, 0, none⟩), .pointer (some ⟨B2, 0, none⟩)] (enters_of Try.func54 (by kernel_rfl) rfl) ao c w (fun W j hj hW => by
    have e : l.getD j ⟨⟨#[]⟩, ⟨#[]⟩, false⟩ = l[j] := by simp [List.getD_eq_getElem?_getD, List.getElem?_eq_getElem hj]
    rw [e, (h4 j l[j] (List.getElem?_eq_getElem hj)).1]
    refine (cloField l[j] nm ds B1 B2 W (cell_later hW c0) (cell_later hW c1)).mono ?_
    rintro e w' ⟨rfl, hb⟩
    exact ⟨rfl, next hW hb⟩) hbig h3).mono ?_
  rintro e w' ⟨⟨r, rfl, hr⟩, hb⟩
  rw [ixN_list l _ (isF nm ds) r (fun i x hx => by rw [List.getD_eq_getElem?_getD, hx]; rfl) hr]
  exact ⟨rfl, hb⟩
theorem ixMeth (nm ds : ByteArray) (B1 B2 : Nat) (ao : Option Addr) (c : Nat) (l : List MD) (w : World) (h : LAt 9 MethR w ao c l) (c0 : w.cell? ⟨B1, 0, none⟩ = some (.string nm)) (c1 : w.cell? ⟨B2, 0, none⟩ = some (.string ds)) :
    Calls Try.prog 55 #[.slice ao l.length c, .func (.func 56) #[] #[.pointer (some ⟨B1, 0, none⟩), .pointer (some ⟨B2, 0, none⟩)]] w fun e w' => e = .returned (.int .i64 (ixZ l (isM nm ds))) ∧ Below w.heap.size w w' := by
  have hbig := h.big
  obtain ⟨h1, h2, rows, h3, h4⟩ := h
  refine (idxX { Try.hasM with } 9 Try.isAgg41 Try.sizeOf41 rows l.length (fun j hj => by obtain ⟨_, _, _, _, _, _, e, _⟩ := h4 j l[j] (List.getElem?_eq_getElem hj); rw [e]; rfl) (fun j => isM nm ds (l.getD j ⟨⟨#[]⟩, ⟨#[]⟩, false, false, 0, 0, [], [], []⟩)) 56 #[.pointer (some ⟨B1, 0, none⟩), .pointer (some ⟨B2, 0, none⟩)] (enters_of Try.func56 (by kernel_rfl) rfl) ao c w (fun W j hj hW => by
    have e : l.getD j ⟨⟨#[]⟩, ⟨#[]⟩, false, false, 0, 0, [], [], []⟩ = l[j] := by simp [List.getD_eq_getElem?_getD, List.getElem?_eq_getElem hj]
    obtain ⟨_, _, _, _, _, _, er, _⟩ := h4 j l[j] (List.getElem?_eq_getElem hj)
    rw [e, er]
    refine (cloMeth l[j] _ _ _ _ _ _ _ _ _ nm ds B1 B2 W (cell_later hW c0) (cell_later hW c1)).mono ?_
    rintro e w' ⟨rfl, hb⟩
    exact ⟨rfl, next hW hb⟩) hbig h3).mono ?_
  rintro e w' ⟨⟨r, rfl, hr⟩, hb⟩
  rw [ixN_list l _ (isM nm ds) r (fun i x hx => by rw [List.getD_eq_getElem?_getD, hx]; rfl) hr]
  exact ⟨rfl, hb⟩

set_option maxRecDepth 8000 in
set_option maxHeartbeats 1000000 in
theorem mfield_any (m : Mem) (ab : Option Mem) (nm ds : ByteArray) (w : World) (h : MemIn w m ab) :
    Calls Try.prog 33 #[.pointer (some ⟨m.b, 0, none⟩), .string nm, .string ds] w fun e w' => e = .returned (.int .i64 (ixZ m.k.fs (isF nm ds))) ∧ Below w.heap.size w w' := by
  have B2 : Below w.heap.size w ((w.alloc (.cells #[.string nm] 9)).alloc (.cells #[.string ds] 9)) := ((Below.refl _ w).alloc (Nat.le_refl _) _).alloc (by simp) _
  obtain ⟨o1, c1, o2, c2, o3, c3, h⟩ := h.ext (ext_below B2)
  have e3 := h.e3
  have b1 := cell_older (.cells #[.string ds] 9) (cell_new_l w (.string nm) 9).1
  have b2 := (cell_new_l (w.alloc (.cells #[.string nm] 9)) (.string ds) 9).1
  simp only [World.size_alloc] at b2
  have hI := D.hidIt (ixField nm ds w.heap.size (w.heap.size + 1) o2 c2 m.k.fs _ h.k2 b1 b2)
  clear h
  go_enter Try.func33, Try.ntmps33
  go_wp2_with (go_at_call 53; refine hI.out.mono ?_; rintro e w' ⟨rfl, hb'⟩)
  go_ret
  exact ⟨rfl, next B2 hb'⟩
set_option maxRecDepth 8000 in
set_option maxHeartbeats 1000000 in
theorem mmeth_any (m : Mem) (ab : Option Mem) (nm ds : ByteArray) (w : World) (h : MemIn w m ab) :
    Calls Try.prog 34 #[.pointer (some ⟨m.b, 0, none⟩), .string nm, .string ds] w fun e w' => e = .returned (.int .i64 (ixZ m.k.ms (isM nm ds))) ∧ Below w.heap.size w w' := by
  have B2 : Below w.heap.size w ((w.alloc (.cells #[.string nm] 9)).alloc (.cells #[.string ds] 9)) := ((Below.refl _ w).alloc (Nat.le_refl _) _).alloc (by simp) _
  obtain ⟨o1, c1, o2, c2, o3, c3, h⟩ := h.ext (ext_below B2)
  have e4 := h.e4
  have b1 := cell_older (.cells #[.string ds] 9) (cell_new_l w (.string nm) 9).1
  have b2 := (cell_new_l (w.alloc (.cells #[.string nm] 9)) (.string ds) 9).1
  simp only [World.size_alloc] at b2
  have hI := D.hidIt (ixMeth nm ds w.heap.size (w.heap.size + 1) o3 c3 m.k.ms _ h.k3 b1 b2)
  clear h
  go_enter Try.func34, Try.ntmps34
  go_wp2_with (go_at_call 55; refine hI.out.mono ?_; rintro e w' ⟨rfl, hb'⟩)
  go_ret
  exact ⟨rfl, next B2 hb'⟩
end Go.Proofs.Ytknppdpcgdncdaa.K
