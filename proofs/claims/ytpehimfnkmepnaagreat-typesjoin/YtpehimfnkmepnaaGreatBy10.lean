import Derived.Test.YtpehimfnkmepnaaGreatBy09
set_option maxRecDepth 8000
set_option maxHeartbeats 40000000
namespace Go.Proofs.YtpehimfnkmepnaaGreat.K
open Go.RowKit Go.Shelf Go.Lib Go.Proofs Q Q.D
section
variable {P : Program} {ρ : Ren}
theorem idxB (L : SlLaysH0.n6 P ρ) (k : Nat) (aE : ∀ w, (isAgg (ρ.t 23)).run P w = .ok true w) (zE : ∀ w, (Go.sizeOf (ρ.t 23)).run P w = .ok k w) (rows : Nat → List Value) (n : Nat) (hk : ∀ x, x < n → (rows x).length = k)
 (p : Nat → Bool) (g : Nat) (rv : Value) (eg : ∀ args w, (callFunc g args).run P w = .ok (.enter g args) w) (ao : Option Addr) (c : Nat) (w : World)
 (hp : ∀ (W : World) (j : Nat), j < n → Below w.heap.size w W → Calls P g #[rv, .agg (rows j).toArray] W fun e w' => e = .returned (.bool (p j)) ∧ Below w.heap.size w w') (hbig : n ≤ 9223372036854775807)
 (hc : 0 < n → ∃ b off, ao = some ⟨b, off, none⟩ ∧ b < w.heap.size ∧ ∀ j, j < n → ∀ i v, (rows j)[i]? = some v → w.cell? ⟨b, off + j * k + i, none⟩ = some v) :
 Calls P (ρ.f 6) #[.slice ao n c, .func (.func g) #[rv] #[]] w fun e w' => (∃ r : Int, e = .returned (.int .i64 r) ∧ decide (0 ≤ r) = anyN n p) ∧ Below w.heap.size w w' := by
 have mixed := L.mixed; have t0 := L.t0; have a0 := L.a0; have z0 := L.z0; have v0 := L.v0; have t3 := L.t3; have a3 := L.a3; have z3 := L.z3; have v3 := L.v3; have t4 := L.t4; have a4 := L.a4; have z4 := L.z4; have v4 := L.v4; have t22 := L.t22; have a22 := L.a22; have z22 := L.z22; have v22 := L.v22; have t25 := L.t25; have a25 := L.a25; have z25 := L.z25; have v25 := L.v25
 have hrow : ∀ (W : World), Below w.heap.size w W → ∀ j, j < n → ∃ b off, ao = some ⟨b, off, none⟩ ∧ Sem.run P (loadCellsFrom ⟨b, off + j * k, none⟩ 0 k #[]) W = .ok (rows j).toArray W := fun W hW j hj => by
  obtain ⟨b, off, e, hb, hc⟩ := hc (by omega)
  refine ⟨b, off, e, run_loadCellsFrom_list P _ _ (rows j) k (hk _ hj) (fun i v hi => ?_)⟩
  rw [Addr.add_lit, hW.cell (p := ⟨b, off + j * k + i, none⟩) hb]
  exact hc j hj i v hi
 clear hc
 obtain ⟨_, _, FG⟩ := L.f6
 go_enter FG, SlBodyH.n6_ntmps ρ
 go_wp2
 go_loopg [5, 8] n (fun gg _ s8 wr => ∃ kk : Nat, kk ≤ n ∧ n - kk ≤ gg ∧ s8 = .int .i64 kk ∧ Aside (Below w.heap.size w wr) ∧ Aside (∀ j, j < kk → p j = false))
 case atStart => exact ⟨0, Nat.zero_le _, by omega, rfl, Below.refl _ w, fun j hj => absurd hj (Nat.not_lt_zero _)⟩
 case round =>
  obtain ⟨kk, hkk, hg, rfl, BW, A⟩ := hrel
  by_cases hlt : kk < n
  · have hltz : (kk : Int) < (n : Int) := by omega
    obtain ⟨b, off, rfl, l2⟩ := hrow wr BW.out kk (by omega)
    have hcall := hp wr kk hlt BW.out
    clear hrow hp
    cases hq : p kk with
    | true =>
      rw [hq] at hcall
      go_wp2_with (go_at_fn g; refine hcall.mono ?_; rintro e w' ⟨rfl, hb'⟩)
      go_ret
      refine ⟨⟨_, rfl, ?_⟩, hb'⟩
      rw [Bool.eq_iff_iff, zFa]
      simp only [decide_eq_true_eq]
      exact ⟨fun _ => ⟨kk, hlt, hq⟩, fun _ => by omega⟩
    | false =>
      rw [hq] at hcall
      go_wp2_with (go_at_fn g; refine hcall.mono ?_; rintro e w' ⟨rfl, hb'⟩)
      go_roundg (n - (kk + 1))
      case measure => omega
      case rel =>
       refine ⟨kk + 1, by omega, by omega, by go_num, hb', (show Aside _ from fun j hj => ?_)⟩
       by_cases e : j = kk
       · subst e
         exact hq
       · exact A.out j (by omega)
  · have hltz : ¬ (kk : Int) < (n : Int) := by omega
    have : kk = n := by omega
    subst this
    go_wp2
    go_ret
    refine ⟨⟨_, rfl, ?_⟩, BW.out⟩
    rw [Bool.eq_iff_iff, zFa]
    simp only [decide_eq_true_eq]
    exact ⟨fun h => absurd h (by omega), fun ⟨j, hj, hq⟩ => by rw [A.out j hj] at hq; cases hq⟩
theorem hasB (L : SlLaysH0.n8 P ρ) (k : Nat) (aE : ∀ w, (isAgg (ρ.t 23)).run P w = .ok true w) (zE : ∀ w, (Go.sizeOf (ρ.t 23)).run P w = .ok k w) (rows : Nat → List Value) (n : Nat) (hk : ∀ x, x < n → (rows x).length = k)
 (p : Nat → Bool) (g : Nat) (rv : Value) (eg : ∀ args w, (callFunc g args).run P w = .ok (.enter g args) w) (ao : Option Addr) (c : Nat) (w : World)
 (hp : ∀ (W : World) (j : Nat), j < n → Below w.heap.size w W → Calls P g #[rv, .agg (rows j).toArray] W fun e w' => e = .returned (.bool (p j)) ∧ Below w.heap.size w w') (hbig : n ≤ 9223372036854775807)
 (hc : 0 < n → ∃ b off, ao = some ⟨b, off, none⟩ ∧ b < w.heap.size ∧ ∀ j, j < n → ∀ i v, (rows j)[i]? = some v → w.cell? ⟨b, off + j * k + i, none⟩ = some v) :
 Calls P (ρ.f 8) #[.slice ao n c, .func (.func g) #[rv] #[]] w fun e w' => e = .returned (.bool (anyN n p)) ∧ Below w.heap.size w w' := by
 have mixed := L.mixed; have t0 := L.t0; have a0 := L.a0; have z0 := L.z0; have v0 := L.v0; have t3 := L.t3; have a3 := L.a3; have z3 := L.z3; have v3 := L.v3; have t4 := L.t4; have a4 := L.a4; have z4 := L.z4; have v4 := L.v4; have t22 := L.t22; have a22 := L.a22; have z22 := L.z22; have v22 := L.v22; have t25 := L.t25; have a25 := L.a25; have z25 := L.z25; have v25 := L.v25
 have e6 : ∀ args w, (callFunc (ρ.f 6) args).run P w = .ok (.enter (ρ.f 6) args) w := L.f6.enters rfl
 have hI := idxB { L with } k aE zE rows n hk p g rv eg ao c w hp hbig hc
 generalize anyN n p = A at hI ⊢
 obtain ⟨_, _, FG⟩ := L.f8
 go_enter FG, SlBodyH.n8_ntmps ρ
 go_wp2_with (go_at_fn (ρ.f 6); refine hI.mono ?_; rintro e w' ⟨⟨r, rfl, hr⟩, hb'⟩)
 go_ret
 exact ⟨by rw [← hr]; rfl, hb'⟩
end
theorem zQ1 (m : MD) (o1 : Option Addr) (n1 k1 : Nat) (o2 : Option Addr) (n2 k2 : Nat) (o3 : Option Addr) (n3 k3 : Nat) (w : World) :
 Calls Tryz.prog 105 #[.agg #[.string m.nm, .string m.ds, .bool m.st, .bool m.nat, .int .i64 m.stk, .int .i64 m.loc, .slice o1 n1 k1, .slice o2 n2 k2, .slice o3 n3 k3]] w fun e w' => e = .returned (.bool m.nat) ∧ Below w.heap.size w w' := by
 have B0 := zA6 w (.cells #[.string m.nm, .string m.ds, .bool m.st, .bool m.nat, .int .i64 m.stk, .int .i64 m.loc, .slice o1 n1 k1, .slice o2 n2 k2, .slice o3 n3 k3] 39)
 go_enter Tryz.func105, Tryz.ntmps105
 go_wp2
 go_ret
 exact ⟨rfl, B0⟩
theorem zSp (ao : Option Addr) (c : Nat) (l : List MD) (w : World) (h : LAt 9 zBk w ao c l) :
 Calls Tryz.prog 104 #[.slice ao l.length c, .func (.func 105) #[] #[]] w fun e w' => e = .returned (.bool (l.any MD.nat)) ∧ Below w.heap.size w w' := by
 have hbig := h.big
 obtain ⟨h1, h2, rows, h3, h4⟩ := h
 have := hasQ Tryz.hasM 9 Tryz.isAgg39 Tryz.sizeOf39 rows l.length (fun j hj => by obtain ⟨_, _, _, _, _, _, e, _⟩ := h4 j l[j] (List.getElem?_eq_getElem hj); rw [e]; rfl) (fun j => (l.getD j ⟨⟨#[]⟩, ⟨#[]⟩, false, false, 0, 0, [], [], []⟩).nat) 105 #[] (enters_of Tryz.func105 (by kernel_rfl) rfl) ao c w (fun W j hj hW => by
  have e : l.getD j ⟨⟨#[]⟩, ⟨#[]⟩, false, false, 0, 0, [], [], []⟩ = l[j] := by simp [List.getD_eq_getElem?_getD, List.getElem?_eq_getElem hj]
  obtain ⟨_, _, _, _, _, _, er, _⟩ := h4 j l[j] (List.getElem?_eq_getElem hj)
  rw [e, er]
  refine (zQ1 l[j] _ _ _ _ _ _ _ _ _ W).mono ?_
  rintro e w' ⟨rfl, hb⟩
  exact ⟨rfl, next hW hb⟩) hbig h3
 rw [zFw l _ MD.nat (fun i x hx => by rw [List.getD_eq_getElem?_getD, hx]; rfl)] at this
 exact this
def qM (nm ds : ByteArray) (m : Mem) : Int := ixZ m.k.ms (isM nm ds)
def zOb (nm ds : ByteArray) (xs : List Mem) : Option MD := match near (qM nm ds) xs with | some m => m.k.ms.find? (isM nm ds) | none => none
def zE3 (xs : List Mem) (x : MD) : Bool := match zOb x.nm x.ds xs with | some y => y.st != x.st | none => false
theorem zSv {α : Type} {l : List α} {q : α → Bool} (h : 0 ≤ ixZ l q) : ∃ (j : Nat) (y : α), ixZ l q = j ∧ l[j]? = some y ∧ l.find? q = some y := by
 unfold ixZ at h ⊢
 cases e : l.findIdx? q with
 | none => rw [e] at h; simp at h
 | some j =>
   rw [List.findIdx?_eq_some_iff_getElem] at e
   obtain ⟨hj, h1, h2⟩ := e
   refine ⟨j, l[j], rfl, List.getElem?_eq_getElem hj, ?_⟩
   rw [List.find?_eq_some_iff_getElem]
   exact ⟨h1, j, hj, rfl, fun k hk => by simpa using h2 k hk⟩
theorem zJu {q : Mem → Int} : ∀ {l : List Mem} {m : Mem}, near q l = some m → m ∈ l ∧ 0 ≤ q m
 | x :: l, m, h => by
   unfold near at h
   split at h
   · cases h; exact ⟨by simp, by assumption⟩
   · obtain ⟨h1, h2⟩ := zJu h; exact ⟨by simp [h1], h2⟩
theorem zQ6 (x : MD) (o1 : Option Addr) (n1 k1 : Nat) (o2 : Option Addr) (n2 k2 : Nat) (o3 : Option Addr) (n3 k3 : Nat) (w : World) (p : Option Mem) (xs : List Mem) (hch : zEj w p xs) :
 Calls Tryz.prog 106 #[ptr p, .agg #[.string x.nm, .string x.ds, .bool x.st, .bool x.nat, .int .i64 x.stk, .int .i64 x.loc, .slice o1 n1 k1, .slice o2 n2 k2, .slice o3 n3 k3]] w fun e w' => e = .returned (.bool (zE3 xs x)) ∧ Below w.heap.size w w' := by
 have B0 := zA6 w (.cells #[.string x.nm, .string x.ds, .bool x.st, .bool x.nat, .int .i64 x.stk, .int .i64 x.loc, .slice o1 n1 k1, .slice o2 n2 k2, .slice o3 n3 k3] 39)
 have hcx := cell_of_row _ w.heap.size 2 _ 39 (0, 0) (heap_alloc_new w (.cells #[.string x.nm, .string x.ds, .bool x.st, .bool x.nat, .int .i64 x.stk, .int .i64 x.loc, .slice o1 n1 k1, .slice o2 n2 k2, .slice o3 n3 k3] 39))
 have hch1 := hch.ext (zB4 B0)
 have hN := D.zA0 (zJn 60 (enters_of Tryz.func60 (by kernel_rfl) rfl) (qM x.nm x.ds) x.nm x.ds _ p xs hch1 (fun W m ab h => zMv m ab x.nm x.ds W h))
 have hst : zE3 xs x = match near (qM x.nm x.ds) xs with | some m => (match m.k.ms.find? (isM x.nm x.ds) with | some y => y.st != x.st | none => false) | none => false := by
  unfold zE3 zOb
  cases near (qM x.nm x.ds) xs <;> rfl
 rw [hst]
 clear hst
 unfold zSz at hN
 cases hn : near (qM x.nm x.ds) xs with
 | none =>
   rw [hn] at hN
   simp only [ptr] at hN
   go_enter Tryz.func106, Tryz.ntmps106
   go_wp2_with (go_at_call 59; refine hN.out.mono ?_; rintro e w' ⟨rfl, hb'⟩)
   go_quiet (fail)
   go_wp2
   go_ret
   exact ⟨rfl, next B0 (zAe hb' _)⟩
 | some m =>
   rw [hn] at hN
   obtain ⟨hmem, hq⟩ := zJu hn
   obtain ⟨jj, y, hj, hy, hf⟩ := zSv hq
   simp only [ptr] at hN
   rw [show qM x.nm x.ds m = (jj : Int) from hj] at hN
   simp only [hf]
   obtain ⟨nm, ds, st, nat, stk, loc, code, hs, rs⟩ := x
   simp only at *
   go_enter Tryz.func106, Tryz.ntmps106
   go_wp2_with (go_at_call 59; refine hN.out.mono ?_; rintro e w' ⟨rfl, hb'⟩)
   obtain ⟨ab, a1, d1, a2, d2, a3, d3, hm⟩ := (hch1.ext (zB4 hb')).at m hmem
   have e4 := hm.e4
   have hlen : jj < m.k.ms.length := (List.getElem?_eq_some_iff.1 hy).1
   have hlen' : (jj : Int) < (m.k.ms.length : Int) := by omega
   obtain ⟨_, _, rows, h3, h4⟩ := hm.k3
   obtain ⟨b, off, rfl, hlt, hc⟩ := h3 (by omega)
   obtain ⟨_, _, _, _, _, _, hr, _⟩ := h4 jj y hy
   have hcs := hc jj hlen 2 (.bool y.st) (by rw [hr]; rfl)
   have hcx' := cell_later hb' hcx
   simp at hcx'
   clear hm hc h3 h4 hcx
   go_quiet (fail)
   go_wp2
   go_ret
   exact ⟨rfl, next B0 (zAe hb' _)⟩
end Go.Proofs.YtpehimfnkmepnaaGreat.K
namespace Go.Proofs.YtpehimfnkmepnaaGreat.K
open Go.RowKit Q Q.D
theorem Mems.at {w : World} : ∀ {R : List Mem}, Mems w R → ∀ m ∈ R, ∃ ab, zGd w m ab
 | x :: R, ⟨h1, _, h3⟩, m, hm => by
   rcases List.mem_cons.1 hm with rfl | h
   · exact ⟨_, h1⟩
   · exact h3.at m h
theorem zQl (w : World) (pk : Nat) (R : List Mem) (mb : Nat) (ao : Option Addr) (c : Nat) (h : KinV w pk R mb ao c) (hR : R.length ≤ 1000) :
 Calls Tryz.prog 16 #[.pointer (some ⟨pk, 0, none⟩)] w fun e w' => Below w.heap.size w w' ∧ ∃ v', e = .returned v' ∧ w'.ownsRow w.heap.size 9 1 v' R.length (R.reverse.map fun m => .string m.k.nm) := by
 have e0 := h.e0
 obtain ⟨_, _, rows, h3, h4⟩ := h.names
 have hlen : (R.reverse.map fun m => m.k.nm).length = R.length := by simp
 rw [hlen] at h3
 have hrow : ∀ j, j < R.length → rows j = [.string ((R.reverse.map fun m => m.k.nm).getD j ⟨#[]⟩)] := fun j hj => by
  have := (h4 j _ (List.getElem?_eq_getElem (by rw [hlen]; exact hj))).1
  rw [this, List.getD_eq_getElem?_getD, List.getElem?_eq_getElem (by rw [hlen]; exact hj)]; rfl
 have hfl : zAv rows R.length = R.reverse.map fun m => .string m.k.nm := by
  refine List.ext_getElem? (fun y => ?_)
  have hk : ∀ j, j < R.length → (rows j).length = 1 := fun j hj => by rw [hrow j hj]; rfl
  by_cases hy : y < R.length
  · have := zA9 hk y hy 0 (by omega)
    rw [Nat.mul_one, Nat.add_zero, hrow y hy] at this
    rw [this, List.getD_eq_getElem?_getD]
    simp [hy]
  · rw [List.getElem?_eq_none (by rw [zBe hk]; omega), List.getElem?_eq_none (by simp; omega)]
 have hC := D.zA0 (zOw w ao R.length c rows h3 (fun j hj => by rw [hrow j hj]; rfl) (fun j hj u hu => by rw [hrow j hj] at hu; simp at hu; subst hu; rfl) (by omega))
 rw [hfl] at hC
 go_enter Tryz.func16, Tryz.ntmps16
 go_wp2_with (go_at_call 62; refine hC.out.mono ?_; rintro e w' ⟨hb', v', rfl, ho⟩)
 go_ret
 exact ⟨hb', _, rfl, ho⟩
theorem zBq {fn : Func} {p t1 : Tmp} {ty : TypeId} (h : fn.results = #[.cell p ty, .tmp t1]) (tmps : Array Value) (w : World) (g : Nat) (t : TypeId) (cs : Array Value) (fr : Nat × Nat) (d : TypeDesc)
 (hp : tmps.getD p undef = .pointer (some ⟨g, 0, none⟩)) (hg : w.heap[g]? = some (.cells cs t fr))
 (hu : Tryz.prog.underlying ty = some d) (hd : (match d with | .struct _ | .array _ _ => true | _ => false) = true) (hi : (Tryz.prog.info? ty).map (·.size) = some cs.size) :
 (results fn tmps).run Tryz.prog w = .ok (.tuple #[.agg cs, tmps.getD t1 undef]) w := by
 have hp' : tmps[p]?.getD undef = .pointer (some ⟨g, 0, none⟩) := by simpa using hp
 have hL := run_loadVar_row (P := Tryz.prog) w g t ty cs fr d hg hu (by cases d <;> simp_all) hi
 simp [results, h, hp', asAddr, hL, Result.andThen]
theorem zF3 {fn : Func} {p t1 t2 : Tmp} {ty : TypeId} (h : fn.results = #[.tmp t1, .cell p ty, .tmp t2]) (tmps : Array Value) (w : World) (g : Nat) (t : TypeId) (cs : Array Value) (fr : Nat × Nat) (d : TypeDesc)
 (hp : tmps.getD p undef = .pointer (some ⟨g, 0, none⟩)) (hg : w.heap[g]? = some (.cells cs t fr))
 (hu : Tryz.prog.underlying ty = some d) (hd : (match d with | .struct _ | .array _ _ => true | _ => false) = true) (hi : (Tryz.prog.info? ty).map (·.size) = some cs.size) :
 (results fn tmps).run Tryz.prog w = .ok (.tuple #[tmps.getD t1 undef, .agg cs, tmps.getD t2 undef]) w := by
 have hp' : tmps[p]?.getD undef = .pointer (some ⟨g, 0, none⟩) := by simpa using hp
 have hL := run_loadVar_row (P := Tryz.prog) w g t ty cs fr d hg hu (by cases d <;> simp_all) hi
 simp [results, h, hp', asAddr, hL, Result.andThen]
theorem zAg.ext {w w' : World} (he : Ext w w') {v : Value} {k : KD} (h : zAg w v k) : zAg w' v k := by
 obtain ⟨o1, c1, o2, c2, o3, c3, e, s1, s2, h1, h2, h3⟩ := h
 exact ⟨o1, c1, o2, c2, o3, c3, e, s1, s2, LAt.ext h1 he (fun _ _ h => h), LAt.ext h2 he (fun _ _ h => h), LAt.ext h3 he (fun _ _ h => zBk.ext he h)⟩
end Go.Proofs.YtpehimfnkmepnaaGreat.K
namespace Go.Proofs.YtpehimfnkmepnaaGreat.Fr
open Go.RowKit Q Q.D K
def FrV (w : World) (v : Value) (f : RD) : Prop :=
 ∃ o1 c1 o2 c2, v = .agg #[.int .i64 f.aT, .slice o1 f.loc.length c1, .slice o2 f.stk.length c2] ∧ LAt 1 zD4 w o1 c1 f.loc ∧ LAt 1 zD4 w o2 c2 f.stk
theorem zB8 {B : Nat} {w w' : World} (h : Below B w w') {b : Nat} (hb : B ≤ b) (row : Array Value) : Below B w (w'.setRow b row) :=
 ⟨h.os, h.tape, h.output, by simpa [World.setRow] using h.size, fun k hk => by
  rw [World.setRow]
  simp only
  rw [Array.getElem?_modify, if_neg (by omega)]
  exact h.block k hk⟩
end Go.Proofs.YtpehimfnkmepnaaGreat.Fr
namespace Go.Proofs.YtpehimfnkmepnaaGreat
section
variable {P : Program} {ops : Array Oper} {Q : Exit → Act → World → Prop} {md : Region.Mode} {S : World → Prop} {j : Nat}
def UpL (P : Program) (md : Region.Mode) (ops : Array Oper) (Q : Exit → Act → World → Prop) (S : World → Prop) (j : Nat) : Nat → Array Bool → Act → World → Prop
 | 0, l, a, w => Region.ready md ops l = [] ∧ Q .normal a w
 | n + 1, l, a, w => (Region.ready md ops l = [] → Q .normal a w) ∧ ∀ i ∈ Region.ready md ops l, wpOp P ops Q i (fun a' w' => ((l.setIfInBounds i true).getD j true = false → S w') ∧ UpL P md ops Q S j n (l.setIfInBounds i true) a' w') a w
theorem UpL.any : ∀ (n : Nat) (l : Array Bool) (a : Act) (w : World), UpL P md ops Q S j n l a w → wpAny P md ops Q n l a w
 | 0, _, _, _, h => h
 | n + 1, _, _, _, h => ⟨h.1, fun i hi => wpOp_mono (fun a' w' h' => UpL.any n _ a' w' h'.2) (h.2 i hi)⟩
theorem UpL.first {i : Nat} {oi : Oper} {v : Value} (hi : ops[i]? = some oi) (hsel : ∀ (j : Nat) (o : Oper) cs b, ops[j]? = some o → o.op ≠ .select cs b) (hQ : ∀ c a w, Q (.panic c) (a.put oi.dst v) w → Q (.panic c) a w)
 (hij : i ≠ j) {T : World → Prop} (hT : (∀ w, T w) ∨ ((∀ w, S w → T w) ∧ ∃ oj, ops[j]? = some oj ∧ ∃ e ∈ oj.after, Region.binds md e = true ∧ e.on = i)) :
 ∀ (n : Nat) (l : Array Bool) (a : Act) (w : World), (∀ k ok, ops[k]? = some ok → k ≠ i → l.getD k true = false → (∀ e ∈ ok.after, Region.binds md e = true → e.on ≠ i) → oi.apart ops ok = true) →
   i ∈ Region.ready md ops l → YieldsIf P ops T oi v a → T w → (l.getD j true = false → S w) → ((∀ w, T w) ∨ l.getD j true = false) → UpL P md ops Q S j n (l.setIfInBounds i true) (a.put oi.dst v) w → UpL P md ops Q S j (n + 1) l a w := by
 intro n
 induction n with
 | zero =>
   intro l a w _ hr hy hTw hS _ H
   refine ⟨fun h => (by rw [h] at hr; cases hr), fun k hk => ?_⟩
   by_cases hki : k = i
   · subst hki; exact hy.wpOp hi hTw ⟨fun h => hS (by rwa [getD_set_ne true hij] at h), H⟩
   · have := ready_mono hk hki
     rw [H.1] at this
     cases this
 | succ n ih =>
   intro l a w hfree hr hy hTw hS hlj H
   refine ⟨fun h => (by rw [h] at hr; cases hr), fun k hk => ?_⟩
   by_cases hki : k = i
   · subst hki; exact hy.wpOp hi hTw ⟨fun h => hS (by rwa [getD_set_ne true hij] at h), H⟩
   · have h1 := H.2 k (ready_mono hk hki)
     obtain ⟨hkun, ok, hok, hall⟩ := mem_ready.1 hk
     have hun : ∀ x : Nat, x = i → ¬ l.getD x false = true := fun x heq h1 => by
      have h0 := (mem_ready.1 hr).1
      rw [heq] at h1
      rcases Nat.lt_or_ge i l.size with h' | h'
      · simp [h'] at h0 h1; rw [h0] at h1; cases h1
      · simp [Array.getElem?_eq_none h'] at h1
     have hnot : ∀ e ∈ ok.after, Region.binds md e = true → e.on ≠ i := fun e he hb heq => hun e.on heq (hall e he hb)
     have h2 := wpOp_putIf hok (hfree k ok hok hki hkun hnot) (fun cs b => hsel i oi cs b hi) (fun cs b => hsel k ok cs b hok) hQ hy h1
     have hfree' : ∀ m om, ops[m]? = some om → m ≠ i → (l.setIfInBounds k true).getD m true = false → (∀ e ∈ om.after, Region.binds md e = true → e.on ≠ i) → oi.apart ops om = true := fun m om hm hmi hum hno => by
      refine hfree m om hm hmi ?_ hno
      by_cases hkm : k = m
      · subst hkm; exact hkun
      · rw [getD_set_ne true hkm] at hum; exact hum
     refine wpOp_mono (fun a' w' h3 => ?_) h2
     have e0 : ((l.setIfInBounds i true).setIfInBounds k true).getD j true = (l.setIfInBounds k true).getD j true := by
      rw [← Array.setIfInBounds_comm _ _ hki, getD_set_ne true hij]
     have hS' : (l.setIfInBounds k true).getD j true = false → S w' := fun h => h3.2.1 (by rw [e0]; exact h)
     have hlj' : (∀ w, T w) ∨ (l.setIfInBounds k true).getD j true = false := by
      rcases hlj with h | h
      · exact .inl h
      · rcases hT with hT | ⟨_, oj, hoj, e, he, hb, heq⟩
        · exact .inl hT
        · by_cases hkj : k = j
          · subst hkj
            rw [hoj] at hok
            cases hok
            exact absurd heq (hnot e he hb)
          · exact .inr (by rw [getD_set_ne true hkj]; exact h)
     have hT' : T w' := by
      rcases hlj' with h | h
      · exact h w'
      · rcases hT with hT | hT
        · exact hT w'
        · exact hT.1 w' (hS' h)
     refine ⟨hS', ih (l.setIfInBounds k true) a' w' hfree' (ready_mono hr (Ne.symm hki)) h3.1 hT' hS' hlj' ?_⟩
     rw [Array.setIfInBounds_comm _ _ hki]
     exact h3.2.2
end
theorem sq1 {α : Type} (l : List α) (i : Nat) (x : α) : l.toArray.setIfInBounds i x = (l.set i x).toArray := List.setIfInBounds_toArray ..
theorem sq2 {α : Type} (x y : α) (l : List α) : (x :: l).set 0 y = y :: l := rfl
theorem sq3 {α : Type} (x y : α) (l : List α) (n : Nat) : (x :: l).set (n + 1) y = x :: l.set n y := rfl
section
variable {P : Program} {l0 : List Oper} {Q : Exit → Act → World → Prop} {md : Region.Mode} {S : World → Prop} {j n : Nat} {ls : Array Bool} {a : Act} {w : World}
def waits (md : Region.Mode) (l0 : List Oper) (j i : Nat) : Bool := match l0[j]? with | some o => o.after.any (fun e => Region.binds md e && e.on == i) | none => false
theorem tL (i : Nat) {oi : Oper} (v : Value) (hi : l0[i]? = some oi) (hw : Region.wanted oi (yielded l0.toArray a.tmps) = true) (hy : ∀ w, S w → (execOp a.eval oi).run P w = .ok (.value v) w)
 (h : UpL P md l0.toArray Q S j n (ls.setIfInBounds i true) (a.put oi.dst v) w) (hS : S w := by assumption) (hQ : ∀ c a w, Q (.panic c) (a.put oi.dst v) w → Q (.panic c) a w := by exact fun _ _ _ h => h)
 (hs : Region.noSelect l0.toArray = true := by kernel_rfl) (hf : Region.free md l0.toArray ls i = true := by kernel_rfl) (hr : (Region.ready md l0.toArray ls).contains i = true := by kernel_rfl)
 (hj : (i != j && (!ls.getD j true && waits md l0 j i)) = true := by kernel_rfl) : UpL P md l0.toArray Q S j (n + 1) ls a w := by
 simp only [Bool.and_eq_true, bne_iff_ne, Bool.not_eq_true'] at hj
 obtain ⟨h1, h2, h3⟩ := hj
 have hi' : l0.toArray[i]? = some oi := by rw [List.getElem?_toArray]; exact hi
 refine UpL.first hi' (Region.noSelect_spec hs) hQ h1 (T := S) (.inr ⟨fun _ h => h, ?_⟩) n ls a w (Region.free_spec hi' hf) (by simpa using hr) (.inl ⟨hw, hy⟩) hS (fun _ => hS) (.inr h2) h
 unfold waits at h3
 split at h3
 · rename_i o ho
   rw [Array.any_eq_true] at h3
   obtain ⟨k, hk, h3⟩ := h3
   simp only [Bool.and_eq_true, beq_iff_eq] at h3
   exact ⟨o, by rw [List.getElem?_toArray]; exact ho, o.after[k], Array.getElem_mem hk, h3.1, h3.2⟩
 · cases h3
theorem tP (i : Nat) {oi : Oper} (v : Value) (hi : l0[i]? = some oi) (hw : Region.wanted oi (yielded l0.toArray a.tmps) = true) (hy : ∀ w, (execOp a.eval oi).run P w = .ok (.value v) w)
 (h : UpL P md l0.toArray Q S j n (ls.setIfInBounds i true) (a.put oi.dst v) w) (hS : (ls.getD j true = false → S w) := by first | exact fun _ => (by assumption) | exact fun h => (by cases h)) (hQ : ∀ c a w, Q (.panic c) (a.put oi.dst v) w → Q (.panic c) a w := by exact fun _ _ _ h => h)
 (hs : Region.noSelect l0.toArray = true := by kernel_rfl) (hf : Region.free md l0.toArray ls i = true := by kernel_rfl) (hr : (Region.ready md l0.toArray ls).contains i = true := by kernel_rfl)
 (hj : (i != j) = true := by kernel_rfl) : UpL P md l0.toArray Q S j (n + 1) ls a w := by
 have hi' : l0.toArray[i]? = some oi := by rw [List.getElem?_toArray]; exact hi
 exact UpL.first hi' (Region.noSelect_spec hs) hQ (by simpa using hj) (T := fun _ => True) (.inl fun _ => trivial) n ls a w (Region.free_spec hi' hf) (by simpa using hr) (.inl ⟨hw, fun w _ => hy w⟩) trivial hS (.inl fun _ => trivial) h
theorem sL (i : Nat) {o : Oper} (ho : l0[i]? = some o) (h : ∀ K : Act → World → Prop, Shut (∀ a w, S w → (S w → UpL P md l0.toArray Q S j n (ls.setIfInBounds i true) a w) → K a w) → if Region.wanted o (yielded l0.toArray a.tmps) = true then Oper.wp P o a w K Q else K (a.put o.dst undef) w)
 (hr : Region.ready md l0.toArray ls = [i] := by kernel_rfl) : UpL P md l0.toArray Q S j (n + 1) ls a w :=
 ⟨fun h0 => by (rw [hr] at h0; cases h0), fun k hk => by
  rw [hr, List.mem_singleton] at hk
  subst hk
  exact wpOp_step (by rw [List.getElem?_toArray]; exact ho) (fun K hK => h K (fun a w hS hW => hK a w ⟨fun _ => hS, hW hS⟩))⟩
theorem jL {o : Oper} (ho : l0[j]? = some o) (h : ∀ K : Act → World → Prop, Shut (∀ a w, UpL P md l0.toArray Q S j n (ls.setIfInBounds j true) a w → K a w) → if Region.wanted o (yielded l0.toArray a.tmps) = true then Oper.wp P o a w K Q else K (a.put o.dst undef) w)
 (hr : Region.ready md l0.toArray ls = [j] := by kernel_rfl) (hz : (ls.setIfInBounds j true).getD j true = true := by kernel_rfl) : UpL P md l0.toArray Q S j (n + 1) ls a w :=
 ⟨fun h0 => by (rw [hr] at h0; cases h0), fun k hk => by
  rw [hr, List.mem_singleton] at hk
  subst hk
  exact wpOp_step (by rw [List.getElem?_toArray]; exact ho) (fun K hK => h K (fun a w hW => hK a w ⟨fun h => by (rw [hz] at h; cases h), hW⟩))⟩
theorem bL (i k : Nat) {o o' : Oper} (ho : l0[i]? = some o) (ho' : l0[k]? = some o') (h : ∀ K : Act → World → Prop, Shut (∀ a w, S w → (S w → UpL P md l0.toArray Q S j n (ls.setIfInBounds i true) a w) → K a w) → if Region.wanted o (yielded l0.toArray a.tmps) = true then Oper.wp P o a w K Q else K (a.put o.dst undef) w)
 (h' : ∀ K : Act → World → Prop, Shut (∀ a w, S w → (S w → UpL P md l0.toArray Q S j n (ls.setIfInBounds k true) a w) → K a w) → if Region.wanted o' (yielded l0.toArray a.tmps) = true then Oper.wp P o' a w K Q else K (a.put o'.dst undef) w)
 (hr : Region.ready md l0.toArray ls = [i, k] := by kernel_rfl) : UpL P md l0.toArray Q S j (n + 1) ls a w :=
 ⟨fun h0 => by (rw [hr] at h0; cases h0), fun m hm => by
  rw [hr] at hm
  rcases List.mem_cons.1 hm with rfl | hm
  · exact wpOp_step (by rw [List.getElem?_toArray]; exact ho) (fun K hK => h K (fun a w hS hW => hK a w ⟨fun _ => hS, hW hS⟩))
  · rw [List.mem_singleton] at hm
    subst hm
    exact wpOp_step (by rw [List.getElem?_toArray]; exact ho') (fun K hK => h' K (fun a w hS hW => hK a w ⟨fun _ => hS, hW hS⟩))⟩
theorem dL (h : Q .normal a w) (hr : Region.ready md l0.toArray ls = [] := by kernel_rfl) : UpL P md l0.toArray Q S j n ls a w := by
 cases n with
 | zero => exact ⟨hr, h⟩
 | succ n => exact ⟨fun _ => h, by rw [hr]; simp⟩
theorem rL {id : Nat} (S : World → Prop) (j : Nat) (hS : S w.drew) (h : S w.drew → UpL P .any l0.toArray Q S j l0.toArray.size (Array.replicate l0.toArray.size false) a w.drew) (hm : P.follows .mixedOrders = true := by kernel_rfl) : (Code.region id l0.toArray true).wp P Q a w :=
 wp_region_any hm (UpL.any _ _ _ _ (h hS))
theorem tH (i : Nat) {oi : Oper} (v : Value) (hi : l0[i]? = some oi) (hw : Region.wanted oi (yielded l0.toArray a.tmps) = true) (hy : ∀ w, S w → (execOp a.eval oi).run P w = .ok (.value v) w)
 (h : wpAnyH P md l0.toArray Q S n (ls.setIfInBounds i true) (a.put oi.dst v) w) (hS : S w := by assumption) (hQ : ∀ c a w, Q (.panic c) (a.put oi.dst v) w → Q (.panic c) a w := by exact fun _ _ _ h => h)
 (hs : Region.noSelect l0.toArray = true := by kernel_rfl) (hf : Region.free md l0.toArray ls i = true := by kernel_rfl) (hr : (Region.ready md l0.toArray ls).contains i = true := by kernel_rfl) : wpAnyH P md l0.toArray Q S (n + 1) ls a w :=
 wpAnyH_take (by rw [List.getElem?_toArray]; exact hi) hs hf hr hQ (.inl ⟨hw, hy⟩) hS h
theorem tS (i : Nat) {oi : Oper} (hi : l0[i]? = some oi) (hw : Region.wanted oi (yielded l0.toArray a.tmps) = false)
 (h : wpAnyH P md l0.toArray Q S n (ls.setIfInBounds i true) (a.put oi.dst undef) w) (hS : S w := by assumption) (hQ : ∀ c a w, Q (.panic c) (a.put oi.dst undef) w → Q (.panic c) a w := by exact fun _ _ _ h => h)
 (hs : Region.noSelect l0.toArray = true := by kernel_rfl) (hf : Region.free md l0.toArray ls i = true := by kernel_rfl) (hr : (Region.ready md l0.toArray ls).contains i = true := by kernel_rfl) : wpAnyH P md l0.toArray Q S (n + 1) ls a w :=
 wpAnyH_take (by rw [List.getElem?_toArray]; exact hi) hs hf hr hQ (.inr ⟨hw, rfl⟩) hS h
theorem cH {i : Nat} {o : Oper} {rs : List Nat} (ho : l0[i]? = some o)
 (h : ∀ K : Act → World → Prop, Shut (∀ a w, S w → (S w → wpAnyH P md l0.toArray Q S n (ls.setIfInBounds i true) a w) → K a w) → if Region.wanted o (yielded l0.toArray a.tmps) = true then Oper.wp P o a w K Q else K (a.put o.dst undef) w)
 (hs : AllReadyH P md l0.toArray Q S n ls a w rs) : AllReadyH P md l0.toArray Q S n ls a w (i :: rs) := AllReadyH.cons (by rw [List.getElem?_toArray]; exact ho) h hs
theorem oH (i : Nat) {o : Oper} (ho : l0[i]? = some o)
 (h : ∀ K : Act → World → Prop, Shut (∀ a w, S w → (S w → wpAnyH P md l0.toArray Q S n (ls.setIfInBounds i true) a w) → K a w) → if Region.wanted o (yielded l0.toArray a.tmps) = true then Oper.wp P o a w K Q else K (a.put o.dst undef) w)
 (hr : Region.ready md l0.toArray ls = [i] := by kernel_rfl) : wpAnyH P md l0.toArray Q S (n + 1) ls a w := wpAnyH_ready hr (by simp) (cH ho h AllReadyH.nil)
theorem eH (h : Q .normal a w) (hr : Region.ready md l0.toArray ls = [] := by kernel_rfl) : wpAnyH P md l0.toArray Q S n ls a w := wpAnyH_done hr h _
end
end Go.Proofs.YtpehimfnkmepnaaGreat
