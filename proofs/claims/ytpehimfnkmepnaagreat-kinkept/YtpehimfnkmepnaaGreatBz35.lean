import Derived.Test.YtpehimfnkmepnaaGreatBz34
set_option maxRecDepth 8000
set_option maxHeartbeats 40000000
namespace Go.Proofs.YtpehimfnkmepnaaGreat.K
open Go.RowKit Go.Shelf Go.Lib Go.Proofs Q Q.D
section
variable {P : Program} {ρ : Ren}
theorem idxB (L : SlLaysH0.n6 P ρ) (k : Nat) (aE : ∀ w, (isAgg (ρ.t 23)).run P w = .ok true w) (zE : ∀ w, (Go.sizeOf (ρ.t 23)).run P w = .ok k w) (rows : Nat → List Value) (n : Nat) (hk : ∀ x, x < n → (rows x).length = k)
 (p : Nat → Bool) (g : Nat) (rv : Value) (eg : ∀ args w, (callFunc g args).run P w = .ok (.enter g args) w) (ao : Option Addr) (c : Nat) (w : World)
 (hp : ∀ (W : World) (j : Nat), j < n → Below w.heap.size w W → Calls P g #[rv, .agg (rows j).toArray] W fun e w' => e = .returned (.bool (p j)) ∧ Below w.heap.size w w') (hbig : n ≤ 9223372036854775807)
 (hc : 0 < n → ∃ b off, ao = some ⟨b, off, none⟩ ∧ b < w.heap.size ∧ ∀ j, j < n → ∀ i v, (rows j)[i]? = some v → w.cell? ⟨b, off + j * k + i, none⟩ = some v) :
 Calls P (ρ.f 6) #[.slice ao n c, .func (.func g) #[rv] #[]] w fun e w' => (∃ r : Int, e = .returned (.int .i64 r) ∧ decide (0 ≤ r) = anyN n p) ∧ Below w.heap.size w w' := by
 have mixed := L.mixed; have t0 := L.t0; have a0 := L.a0; have z0 := L.z0; have v0 := L.v0; have t3 := L.t3; have a3 := L.a3; have z3 := L.z3; have v3 := L.v3; have t4 := L.t4; have a4 := L.a4; have z4 := L.z4; have v4 := L.v4; have t22 := L.t22; have a22 := L.a22; have z22 := L.z22; have v22 := L.v22; have t25 := L.t25; have a25 := L.a25; have z25 := L.z25; have v25 := L.v25
 have hrow : ∀ (W : World), Below w.heap.size w W → ∀ j, j < n → ∃ b off, ao = some ⟨b, off, none⟩ ∧ Sem.run P (loadCellsFrom ⟨b, off + j * k, none⟩ 0 k #[]) W = .ok (rows j).toArray W := fun W hW j hj => by
  obtain ⟨b, off, e, hb, hc⟩ := hc (by omega)
  refine ⟨b, off, e, run_loadCellsFrom_list P _ _ (rows j) k (hk _ hj) (fun i v hi => ?_)⟩
  rw [Addr.add_lit, hW.cell (p := ⟨b, off + j * k + i, none⟩) hb]
  exact hc j hj i v hi
 clear hc
 obtain ⟨_, _, FG⟩ := L.f6
 go_enter FG, SlBodyH.n6_ntmps ρ
 go_wp2
 go_loopg [5, 8] n (fun gg _ s8 wr => ∃ kk : Nat, kk ≤ n ∧ n - kk ≤ gg ∧ s8 = .int .i64 kk ∧ Aside (Below w.heap.size w wr) ∧ Aside (∀ j, j < kk → p j = false))
 case atStart => exact ⟨0, Nat.zero_le _, by omega, rfl, Below.refl _ w, fun j hj => absurd hj (Nat.not_lt_zero _)⟩
 case round =>
  obtain ⟨kk, hkk, hg, rfl, BW, A⟩ := hrel
  by_cases hlt : kk < n
  · have hltz : (kk : Int) < (n : Int) := by omega
    obtain ⟨b, off, rfl, l2⟩ := hrow wr BW.out kk (by omega)
    have hcall := hp wr kk hlt BW.out
    clear hrow hp
    cases hq : p kk with
    | true =>
      rw [hq] at hcall
      go_wp2_with (go_at_fn g; refine hcall.mono ?_; rintro e w' ⟨rfl, hb'⟩)
      go_ret
      refine ⟨⟨_, rfl, ?_⟩, hb'⟩
      rw [Bool.eq_iff_iff, zE0]
      simp only [decide_eq_true_eq]
      exact ⟨fun _ => ⟨kk, hlt, hq⟩, fun _ => by omega⟩
    | false =>
      rw [hq] at hcall
      go_wp2_with (go_at_fn g; refine hcall.mono ?_; rintro e w' ⟨rfl, hb'⟩)
      go_roundg (n - (kk + 1))
      case measure => omega
      case rel =>
       refine ⟨kk + 1, by omega, by omega, by go_num, hb', (show Aside _ from fun j hj => ?_)⟩
       by_cases e : j = kk
       · subst e
         exact hq
       · exact A.out j (by omega)
  · have hltz : ¬ (kk : Int) < (n : Int) := by omega
    have : kk = n := by omega
    subst this
    go_wp2
    go_ret
    refine ⟨⟨_, rfl, ?_⟩, BW.out⟩
    rw [Bool.eq_iff_iff, zE0]
    simp only [decide_eq_true_eq]
    exact ⟨fun h => absurd h (by omega), fun ⟨j, hj, hq⟩ => by rw [A.out j hj] at hq; cases hq⟩
theorem hasB (L : SlLaysH0.n8 P ρ) (k : Nat) (aE : ∀ w, (isAgg (ρ.t 23)).run P w = .ok true w) (zE : ∀ w, (Go.sizeOf (ρ.t 23)).run P w = .ok k w) (rows : Nat → List Value) (n : Nat) (hk : ∀ x, x < n → (rows x).length = k)
 (p : Nat → Bool) (g : Nat) (rv : Value) (eg : ∀ args w, (callFunc g args).run P w = .ok (.enter g args) w) (ao : Option Addr) (c : Nat) (w : World)
 (hp : ∀ (W : World) (j : Nat), j < n → Below w.heap.size w W → Calls P g #[rv, .agg (rows j).toArray] W fun e w' => e = .returned (.bool (p j)) ∧ Below w.heap.size w w') (hbig : n ≤ 9223372036854775807)
 (hc : 0 < n → ∃ b off, ao = some ⟨b, off, none⟩ ∧ b < w.heap.size ∧ ∀ j, j < n → ∀ i v, (rows j)[i]? = some v → w.cell? ⟨b, off + j * k + i, none⟩ = some v) :
 Calls P (ρ.f 8) #[.slice ao n c, .func (.func g) #[rv] #[]] w fun e w' => e = .returned (.bool (anyN n p)) ∧ Below w.heap.size w w' := by
 have mixed := L.mixed; have t0 := L.t0; have a0 := L.a0; have z0 := L.z0; have v0 := L.v0; have t3 := L.t3; have a3 := L.a3; have z3 := L.z3; have v3 := L.v3; have t4 := L.t4; have a4 := L.a4; have z4 := L.z4; have v4 := L.v4; have t22 := L.t22; have a22 := L.a22; have z22 := L.z22; have v22 := L.v22; have t25 := L.t25; have a25 := L.a25; have z25 := L.z25; have v25 := L.v25
 have e6 : ∀ args w, (callFunc (ρ.f 6) args).run P w = .ok (.enter (ρ.f 6) args) w := L.f6.enters rfl
 have hI := idxB { L with } k aE zE rows n hk p g rv eg ao c w hp hbig hc
 generalize anyN n p = A at hI ⊢
 obtain ⟨_, _, FG⟩ := L.f8
 go_enter FG, SlBodyH.n8_ntmps ρ
 go_wp2_with (go_at_fn (ρ.f 6); refine hI.mono ?_; rintro e w' ⟨⟨r, rfl, hr⟩, hb'⟩)
 go_ret
 exact ⟨by rw [← hr]; rfl, hb'⟩
end
theorem zMs (m : MD) (o1 : Option Addr) (n1 k1 : Nat) (o2 : Option Addr) (n2 k2 : Nat) (o3 : Option Addr) (n3 k3 : Nat) (w : World) :
 Calls Tryz.prog 105 #[.agg #[.string m.nm, .string m.ds, .bool m.st, .bool m.nat, .int .i64 m.stk, .int .i64 m.loc, .slice o1 n1 k1, .slice o2 n2 k2, .slice o3 n3 k3]] w fun e w' => e = .returned (.bool m.nat) ∧ Below w.heap.size w w' := by
 have B0 := zA9 w (.cells #[.string m.nm, .string m.ds, .bool m.st, .bool m.nat, .int .i64 m.stk, .int .i64 m.loc, .slice o1 n1 k1, .slice o2 n2 k2, .slice o3 n3 k3] 39)
 go_enter Tryz.func105, Tryz.ntmps105
 go_wp2
 go_ret
 exact ⟨rfl, B0⟩
theorem zO0 (ao : Option Addr) (c : Nat) (l : List MD) (w : World) (h : LAt 9 zB1 w ao c l) :
 Calls Tryz.prog 104 #[.slice ao l.length c, .func (.func 105) #[] #[]] w fun e w' => e = .returned (.bool (l.any MD.nat)) ∧ Below w.heap.size w w' := by
 have hbig := h.big
 obtain ⟨h1, h2, rows, h3, h4⟩ := h
 have := hasQ Tryz.hasM 9 Tryz.isAgg39 Tryz.sizeOf39 rows l.length (fun j hj => by obtain ⟨_, _, _, _, _, _, e, _⟩ := h4 j l[j] (List.getElem?_eq_getElem hj); rw [e]; rfl) (fun j => (l.getD j ⟨⟨#[]⟩, ⟨#[]⟩, false, false, 0, 0, [], [], []⟩).nat) 105 #[] (enters_of Tryz.func105 (by kernel_rfl) rfl) ao c w (fun W j hj hW => by
  have e : l.getD j ⟨⟨#[]⟩, ⟨#[]⟩, false, false, 0, 0, [], [], []⟩ = l[j] := by simp [List.getD_eq_getElem?_getD, List.getElem?_eq_getElem hj]
  obtain ⟨_, _, _, _, _, _, er, _⟩ := h4 j l[j] (List.getElem?_eq_getElem hj)
  rw [e, er]
  refine (zMs l[j] _ _ _ _ _ _ _ _ _ W).mono ?_
  rintro e w' ⟨rfl, hb⟩
  exact ⟨rfl, next hW hb⟩) hbig h3
 rw [zEi l _ MD.nat (fun i x hx => by rw [List.getD_eq_getElem?_getD, hx]; rfl)] at this
 exact this
def qM (nm ds : ByteArray) (m : Mem) : Int := ixZ m.k.ms (isM nm ds)
def qF (nm ds : ByteArray) (m : Mem) : Int := ixZ m.k.fs (isF nm ds)
def zLs (nm ds : ByteArray) (xs : List Mem) : Option MD := match near (qM nm ds) xs with | some m => m.k.ms.find? (isM nm ds) | none => none
def zD7 (xs : List Mem) (x : MD) : Bool := match zLs x.nm x.ds xs with | some y => y.st != x.st | none => false
theorem zRa {α : Type} {l : List α} {q : α → Bool} (h : 0 ≤ ixZ l q) : ∃ (j : Nat) (y : α), ixZ l q = j ∧ l[j]? = some y ∧ l.find? q = some y := by
 unfold ixZ at h ⊢
 cases e : l.findIdx? q with
 | none => rw [e] at h; simp at h
 | some j =>
   rw [List.findIdx?_eq_some_iff_getElem] at e
   obtain ⟨hj, h1, h2⟩ := e
   refine ⟨j, l[j], rfl, List.getElem?_eq_getElem hj, ?_⟩
   rw [List.find?_eq_some_iff_getElem]
   exact ⟨h1, j, hj, rfl, fun k hk => by simpa using h2 k hk⟩
theorem zGz {q : Mem → Int} : ∀ {l : List Mem} {m : Mem}, near q l = some m → m ∈ l ∧ 0 ≤ q m
 | x :: l, m, h => by
   unfold near at h
   split at h
   · cases h; exact ⟨by simp, by assumption⟩
   · obtain ⟨h1, h2⟩ := zGz h; exact ⟨by simp [h1], h2⟩
theorem zNa (x : MD) (o1 : Option Addr) (n1 k1 : Nat) (o2 : Option Addr) (n2 k2 : Nat) (o3 : Option Addr) (n3 k3 : Nat) (w : World) (p : Option Mem) (xs : List Mem) (hch : zDj w p xs) :
 Calls Tryz.prog 106 #[ptr p, .agg #[.string x.nm, .string x.ds, .bool x.st, .bool x.nat, .int .i64 x.stk, .int .i64 x.loc, .slice o1 n1 k1, .slice o2 n2 k2, .slice o3 n3 k3]] w fun e w' => e = .returned (.bool (zD7 xs x)) ∧ Below w.heap.size w w' := by
 have B0 := zA9 w (.cells #[.string x.nm, .string x.ds, .bool x.st, .bool x.nat, .int .i64 x.stk, .int .i64 x.loc, .slice o1 n1 k1, .slice o2 n2 k2, .slice o3 n3 k3] 39)
 have hcx := cell_of_row _ w.heap.size 2 _ 39 (0, 0) (heap_alloc_new w (.cells #[.string x.nm, .string x.ds, .bool x.st, .bool x.nat, .int .i64 x.stk, .int .i64 x.loc, .slice o1 n1 k1, .slice o2 n2 k2, .slice o3 n3 k3] 39))
 have hch1 := hch.ext (zAi B0)
 have hN := D.zA0 (zH0 60 (enters_of Tryz.func60 (by kernel_rfl) rfl) (qM x.nm x.ds) x.nm x.ds _ p xs hch1 (fun W m ab h => zJr m ab x.nm x.ds W h))
 have hst : zD7 xs x = match near (qM x.nm x.ds) xs with | some m => (match m.k.ms.find? (isM x.nm x.ds) with | some y => y.st != x.st | none => false) | none => false := by
  unfold zD7 zLs
  cases near (qM x.nm x.ds) xs <;> rfl
 rw [hst]
 clear hst
 unfold zOx at hN
 cases hn : near (qM x.nm x.ds) xs with
 | none =>
   rw [hn] at hN
   simp only [ptr] at hN
   go_enter Tryz.func106, Tryz.ntmps106
   go_wp2_with (go_at_call 59; refine hN.out.mono ?_; rintro e w' ⟨rfl, hb'⟩)
   go_quiet (fail)
   go_wp2
   go_ret
   exact ⟨rfl, next B0 (zA5 hb' _)⟩
 | some m =>
   rw [hn] at hN
   obtain ⟨hmem, hq⟩ := zGz hn
   obtain ⟨jj, y, hj, hy, hf⟩ := zRa hq
   simp only [ptr] at hN
   rw [show qM x.nm x.ds m = (jj : Int) from hj] at hN
   simp only [hf]
   obtain ⟨nm, ds, st, nat, stk, loc, code, hs, rs⟩ := x
   simp only at *
   go_enter Tryz.func106, Tryz.ntmps106
   go_wp2_with (go_at_call 59; refine hN.out.mono ?_; rintro e w' ⟨rfl, hb'⟩)
   obtain ⟨ab, a1, d1, a2, d2, a3, d3, hm⟩ := (hch1.ext (zAi hb')).at m hmem
   have e4 := hm.e4
   have hlen : jj < m.k.ms.length := (List.getElem?_eq_some_iff.1 hy).1
   have hlen' : (jj : Int) < (m.k.ms.length : Int) := by omega
   obtain ⟨_, _, rows, h3, h4⟩ := hm.k3
   obtain ⟨b, off, rfl, hlt, hc⟩ := h3 (by omega)
   obtain ⟨_, _, _, _, _, _, hr, _⟩ := h4 jj y hy
   have hcs := hc jj hlen 2 (.bool y.st) (by rw [hr]; rfl)
   have hcx' := cell_later hb' hcx
   simp at hcx'
   clear hm hc h3 h4 hcx
   go_quiet (fail)
   go_wp2
   go_ret
   exact ⟨rfl, next B0 (zA5 hb' _)⟩
end Go.Proofs.YtpehimfnkmepnaaGreat.K
