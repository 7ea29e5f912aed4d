import Derived.Test.YtpehimfnkmepnaaGreatBz33
set_option maxRecDepth 8000
set_option maxHeartbeats 40000000
namespace Go.Proofs.YtpehimfnkmepnaaGreat.K
open Go.RowKit Go.Shelf Q Q.D
attribute [local go_sem] Oper.semAt_some
def enc (m : Mem) : Value := .pointer (some ⟨m.b, 0, none⟩)
theorem zDj.len {w : World} : ∀ {l l' : List Mem} {p q : Option Mem}, ptr p = ptr q → zDj w p l → zDj w q l' → l.length = l'.length
 | [], [], _, _, _, _, _ => rfl
 | [], _ :: _, p, q, e, h, ⟨h1, _⟩ => by cases h; cases h1; simp [ptr] at e
 | _ :: _, [], p, q, e, ⟨h1, _⟩, h => by cases h; cases h1; simp [ptr] at e
 | m :: l, m' :: l', p, q, e, ⟨h1, ab, h2, h3⟩, ⟨h1', ab', h2', h3'⟩ => by
   subst h1; subst h1'
   simp only [ptr, Value.pointer.injEq, Option.some.injEq, Addr.mk.injEq, and_true] at e
   obtain ⟨_, _, _, _, _, _, h⟩ := h2
   obtain ⟨_, _, _, _, _, _, h'⟩ := h2'
   have e5 := h.e5
   rw [e, h'.e5, Option.some.injEq] at e5
   simp only [List.length_cons]
   rw [zDj.len e5.symm h3 h3']
open Classical in
noncomputable def zSi (w : World) (v : Value) : Nat := if h : ∃ n, ∃ (p : Option Mem) (l : List Mem), v = ptr p ∧ zDj w p l ∧ l.length = n then h.choose else 0
theorem zM2 {w : World} {p : Option Mem} {l : List Mem} (h : zDj w p l) : zSi w (ptr p) = l.length := by
 have hx : ∃ n, ∃ (q : Option Mem) (l' : List Mem), ptr p = ptr q ∧ zDj w q l' ∧ l'.length = n := ⟨_, p, l, rfl, h, rfl⟩
 unfold zSi
 rw [dif_pos hx]
 obtain ⟨q, l', e, h', hl⟩ := hx.choose_spec
 rw [← hl]
 exact zDj.len e.symm h' h
theorem zLv (m : Nat) (w : World) (p : Option Mem) (xs : List Mem) (hc : zDj w p xs) : zR3 Tryz.prog m 110 (ptr p) enc xs (fun W => Below w.heap.size w W) := by
 intro l J Jx W hSt hY h0
 refine callsIn_of_wp Tryz.func110 rfl trivial ?_ rfl
 simp only [Tryz.ntmps110, List.size_toArray, List.length_cons, List.length_nil, Nat.reduceAdd, Nat.reduceSub, Array.replicate_succ, Array.replicate_zero, List.push_toArray, List.append_toArray, List.nil_append, List.cons_append]
 obtain ⟨pv, hpv⟩ : ∃ pv, ptr p = pv := ⟨_, rfl⟩
 rw [hpv]
 gi_wp2
 gi_loopw [0] (fun pv wr => ∃ (pre rest : List Mem) (q : Option Mem), pv = ptr q ∧ xs = pre ++ rest ∧ zDj w q rest ∧ J pre wr) (fun pv _ => zSi w pv)
 case atStart =>
  exact ⟨[], xs, p, hpv.symm, rfl, hc, h0⟩
 case round =>
  obtain ⟨pre, rest, q, rfl, hx, hl, hJs⟩ := hrel
  cases rest with
  | nil =>
    obtain rfl : q = none := hl
    unfold ptr
    gi_wp2
    refine ⟨fun _ h => (by cases h), ?_⟩
    gi_wp2
    go_end0
    exact ⟨⟨_, rfl⟩, .inl (by simpa [hx] using hJs)⟩
  | cons x rest =>
    have hl' := hl
    obtain ⟨rfl, ab, hm, hr⟩ := hl
    obtain ⟨fn, tmps, assign, body, hy, hR⟩ := hY pre x rest wr hx hJs
    unfold enc at hy
    unfold ptr
    gi_wp2
    refine ⟨fun h => by simp [Fence.wide] at h, hR.mono ?_⟩
    rintro e W3 (⟨rfl, hJ3⟩ | ⟨rfl, hJx3⟩)
    · obtain ⟨_, _, _, _, _, _, hm⟩ := hm
      have h5 : W3.cell? ⟨x.b, 5, none⟩ = some (ptr ab) := (zAi (hSt _ _ hJ3)).cell _ _ hm.e5
      gi_wp2
      go_roundw
      case rel => exact ⟨pre ++ [x], rest, ab, rfl, by simp [hx], hr, hJ3⟩
      case measure => rw [zM2 hr, show Value.pointer (some ⟨x.b, 0, none⟩) = ptr (some x) from rfl, zM2 hl']; simp
    · gi_wp2
      go_end0
      exact ⟨⟨_, rfl⟩, .inr ⟨_, hJx3⟩⟩
attribute [local go_sem] Oper.semAt_some
def ents (R : List Mem) : List (ByteArray × Value) := R.reverse.map fun m => (m.k.nm, enc m)
theorem zNb (l : List (ByteArray × Value)) (n : ByteArray) (v : Value) (s : ByteArray) : zFl (l ++ [(n, v)]) s = (zFl l s).or (if s == n then some v else none) := by
 induction l with
 | nil => simp [zFl]
 | cons p l ih =>
   simp only [List.cons_append, zFl]
   split
   · rfl
   · exact ih
def zSe : List Mem → Prop
 | [] => True
 | m :: o => zB7 o m.k.nm = none ∧ zSe o
theorem Mems.apart {w : World} : ∀ {l : List Mem}, Mems w l → zSe l
 | [], _ => trivial
 | _ :: _, ⟨_, h, k⟩ => ⟨h, Mems.apart k⟩
theorem zEp : ∀ {R : List Mem} (s : ByteArray), zSe R → zFl (ents R) s = (zB7 R s).map enc
 | [], _, _ => rfl
 | m :: o, s, ⟨h1, h2⟩ => by
   have ih := zEp s h2
   have : ents (m :: o) = ents o ++ [(m.k.nm, enc m)] := by simp [ents]
   rw [this, zNb, ih]
   simp only [zB7]
   cases hs : s == m.k.nm
   · simp
   · have e : s = m.k.nm := (MapKept.bytes_beq _ _).1 hs
     rw [e, h1]
     simp
structure KinV (w : World) (pk : Nat) (R : List Mem) (mb : Nat) (ao : Option Addr) (c : Nat) : Prop where
 e0 : w.cell? ⟨pk, 0, none⟩ = some (.slice ao R.length c)
 e1 : w.cell? ⟨pk, 1, none⟩ = some (.map (some mb))
 map : SMap w mb (ents R)
 mems : Mems w R
 names : LAt 1 zDm w ao c (R.reverse.map fun m => m.k.nm)
theorem KinV.below {w w' : World} {pk : Nat} {R : List Mem} {mb : Nat} {ao : Option Addr} {c : Nat} (h : KinV w pk R mb ao c) (hb : Below w.heap.size w w') : KinV w' pk R mb ao c :=
 ⟨(zAi hb).cell _ _ h.e0, (zAi hb).cell _ _ h.e1, h.map.kept (hb.block _ h.map.lt), h.mems.ext (zAi hb), h.names.below hb (fun _ _ h => h)⟩
theorem KinV.look {w : World} {pk : Nat} {R : List Mem} {mb : Nat} {ao : Option Addr} {c : Nat} (h : KinV w pk R mb ao c) (s : ByteArray) :
 (Instr.lookup 97 (.map (some mb)) (.string s) false).run Tryz.prog w = .ok (ptr (zB7 R s)) w := by
 rw [h.map.look Tryz.underlying97 Tryz.underlying9 (Tryz.zeroValue108 w) s, zEp s h.mems.apart]
 cases zB7 R s <;> rfl
theorem zEr (W : World) (v : Value) (t : TypeId) : (W.alloc (.cells #[v] t)).cell? ⟨W.heap.size, 0, none⟩ = some v ∧ (W.alloc (.cells #[v] t)).frozen? ⟨W.heap.size, 0, none⟩ = false := by
 have h := heap_alloc_new W (.cells #[v] t)
 constructor
 · unfold World.cell?; rw [h]; rfl
 · unfold World.frozen?; rw [h]; simp
theorem zI1 {w : World} {p : Addr} {v : Value} (o : Obj) (h : w.cell? p = some v) : (w.alloc o).cell? p = some v := (zAi (zA9 w o)).cell _ _ h
theorem zBx {β : Type} {w₀ : World} {B : Nat} (hB : w₀.heap.size ≤ B) : OwnFrom B (fun (_ : β) W => Below w₀.heap.size w₀ W) := ownFrom_below (Nat.le_refl _) hB
end Go.Proofs.YtpehimfnkmepnaaGreat.K
namespace Go.Proofs.YtpehimfnkmepnaaGreat.K
open Go.RowKit Go.Shelf Go.Lib Go.Proofs Q Q.D
def IxN (n : Nat) (p : Nat → Bool) (r : Int) : Prop := (∃ k : Nat, r = k ∧ k < n ∧ p k = true ∧ ∀ j, j < k → p j = false) ∨ (r = -1 ∧ ∀ j, j < n → p j = false)
def ixZ {α : Type} (l : List α) (q : α → Bool) : Int := match l.findIdx? q with | some j => (j : Int) | none => -1
theorem zQm {α : Type} (l : List α) (p : Nat → Bool) (q : α → Bool) (r : Int) (h : ∀ i x, l[i]? = some x → p i = q x) (hr : IxN l.length p r) : r = ixZ l q := by
 unfold ixZ
 rcases hr with ⟨k, rfl, hk, hp, hb⟩ | ⟨rfl, hb⟩
 · have : l.findIdx? q = some k := by
    rw [List.findIdx?_eq_some_iff_getElem]
    refine ⟨hk, by rw [← h k l[k] (List.getElem?_eq_getElem hk)]; exact hp, fun j hj => ?_⟩
    rw [← h j l[j] (List.getElem?_eq_getElem (by omega)), hb j hj]
    simp
   rw [this]
 · have : l.findIdx? q = none := by
    rw [List.findIdx?_eq_none_iff]
    intro x hx
    obtain ⟨i, hi⟩ := List.getElem?_of_mem hx
    rw [← h i x hi]
    exact hb i (List.getElem?_eq_some_iff.1 hi).1
   rw [this]
section
variable {P : Program} {ρ : Ren}
theorem idxX (L : SlLaysH0.n6 P ρ) (k : Nat) (aE : ∀ w, (isAgg (ρ.t 23)).run P w = .ok true w) (zE : ∀ w, (Go.sizeOf (ρ.t 23)).run P w = .ok k w) (rows : Nat → List Value) (n : Nat) (hk : ∀ x, x < n → (rows x).length = k)
 (p : Nat → Bool) (g : Nat) (lb : Array Value) (eg : ∀ args w, (callFunc g args).run P w = .ok (.enter g args) w) (ao : Option Addr) (c : Nat) (w : World)
 (hp : ∀ (W : World) (j : Nat), j < n → Below w.heap.size w W → Calls P g (#[.agg (rows j).toArray] ++ lb) W fun e w' => e = .returned (.bool (p j)) ∧ Below w.heap.size w w') (hbig : n ≤ 9223372036854775807)
 (hc : 0 < n → ∃ b off, ao = some ⟨b, off, none⟩ ∧ b < w.heap.size ∧ ∀ j, j < n → ∀ i v, (rows j)[i]? = some v → w.cell? ⟨b, off + j * k + i, none⟩ = some v) :
 Calls P (ρ.f 6) #[.slice ao n c, .func (.func g) #[] lb] w fun e w' => (∃ r : Int, e = .returned (.int .i64 r) ∧ IxN n p r) ∧ Below w.heap.size w w' := by
 have mixed := L.mixed; have t0 := L.t0; have a0 := L.a0; have z0 := L.z0; have v0 := L.v0; have t3 := L.t3; have a3 := L.a3; have z3 := L.z3; have v3 := L.v3; have t4 := L.t4; have a4 := L.a4; have z4 := L.z4; have v4 := L.v4; have t22 := L.t22; have a22 := L.a22; have z22 := L.z22; have v22 := L.v22; have t25 := L.t25; have a25 := L.a25; have z25 := L.z25; have v25 := L.v25
 have hrow : ∀ (W : World), Below w.heap.size w W → ∀ j, j < n → ∃ b off, ao = some ⟨b, off, none⟩ ∧ Sem.run P (loadCellsFrom ⟨b, off + j * k, none⟩ 0 k #[]) W = .ok (rows j).toArray W := fun W hW j hj => by
  obtain ⟨b, off, e, hb, hc⟩ := hc (by omega)
  refine ⟨b, off, e, run_loadCellsFrom_list P _ _ (rows j) k (hk _ hj) (fun i v hi => ?_)⟩
  rw [Addr.add_lit, hW.cell (p := ⟨b, off + j * k + i, none⟩) hb]
  exact hc j hj i v hi
 clear hc
 obtain ⟨_, _, FG⟩ := L.f6
 go_enter FG, SlBodyH.n6_ntmps ρ
 go_wp2
 go_loopg [5, 8] n (fun gg _ s8 wr => ∃ kk : Nat, kk ≤ n ∧ n - kk ≤ gg ∧ s8 = .int .i64 kk ∧ Aside (Below w.heap.size w wr) ∧ Aside (∀ j, j < kk → p j = false))
 case atStart => exact ⟨0, Nat.zero_le _, by omega, rfl, Below.refl _ w, fun j hj => absurd hj (Nat.not_lt_zero _)⟩
 case round =>
  obtain ⟨kk, hkk, hg, rfl, BW, A⟩ := hrel
  by_cases hlt : kk < n
  · have hltz : (kk : Int) < (n : Int) := by omega
    obtain ⟨b, off, rfl, l2⟩ := hrow wr BW.out kk (by omega)
    have hcall := hp wr kk hlt BW.out
    clear hrow hp
    cases hq : p kk with
    | true =>
      rw [hq] at hcall
      go_wp2_with (go_at_fn g; refine hcall.mono ?_; rintro e w' ⟨rfl, hb'⟩)
      go_ret
      refine ⟨⟨_, rfl, ?_⟩, hb'⟩
      exact .inl ⟨kk, rfl, hlt, hq, A.out⟩
    | false =>
      rw [hq] at hcall
      go_wp2_with (go_at_fn g; refine hcall.mono ?_; rintro e w' ⟨rfl, hb'⟩)
      go_roundg (n - (kk + 1))
      case measure => omega
      case rel =>
       refine ⟨kk + 1, by omega, by omega, by go_num, hb', (show Aside _ from fun j hj => ?_)⟩
       by_cases e : j = kk
       · subst e
         exact hq
       · exact A.out j (by omega)
  · have hltz : ¬ (kk : Int) < (n : Int) := by omega
    have : kk = n := by omega
    subst this
    go_wp2
    go_ret
    refine ⟨⟨_, rfl, ?_⟩, BW.out⟩
    exact .inr ⟨rfl, A.out⟩
end
def isF (nm ds : ByteArray) (f : FD) : Bool := (f.nm.toList == nm.toList) && (f.ds.toList == ds.toList)
def isM (nm ds : ByteArray) (m : MD) : Bool := (m.nm.toList == nm.toList) && (m.ds.toList == ds.toList)
theorem zS7 (m : MD) (o1 : Option Addr) (n1 k1 : Nat) (o2 : Option Addr) (n2 k2 : Nat) (o3 : Option Addr) (n3 k3 : Nat) (nm ds : ByteArray) (B1 B2 : Nat) (w : World) (c0 : w.cell? ⟨B1, 0, none⟩ = some (.string nm)) (c1 : w.cell? ⟨B2, 0, none⟩ = some (.string ds)) :
 Calls Tryz.prog 112 #[.agg #[.string m.nm, .string m.ds, .bool m.st, .bool m.nat, .int .i64 m.stk, .int .i64 m.loc, .slice o1 n1 k1, .slice o2 n2 k2, .slice o3 n3 k3], .pointer (some ⟨B1, 0, none⟩), .pointer (some ⟨B2, 0, none⟩)] w fun e w' => e = .returned (.bool (isM nm ds m)) ∧ Below w.heap.size w w' := by
 have B0 := zA9 w (.cells #[.string m.nm, .string m.ds, .bool m.st, .bool m.nat, .int .i64 m.stk, .int .i64 m.loc, .slice o1 n1 k1, .slice o2 n2 k2, .slice o3 n3 k3] 39)
 have h0 := cell_later B0 c0
 have h1 := cell_later B0 c1
 unfold isM
 obtain ⟨fn, fd, st, nat, stk, loc, code, hs, rs⟩ := m
 simp only at *
 cases e1 : fn.toList == nm.toList
 · go_enter Tryz.func112, Tryz.ntmps112
   go_wp2
   go_ret
   exact ⟨rfl, B0⟩
 · cases e2 : fd.toList == ds.toList <;>
   · go_enter Tryz.func112, Tryz.ntmps112
     go_wp2
     go_ret
     exact ⟨rfl, B0⟩
theorem ixMeth (nm ds : ByteArray) (B1 B2 : Nat) (ao : Option Addr) (c : Nat) (l : List MD) (w : World) (h : LAt 9 zB1 w ao c l) (c0 : w.cell? ⟨B1, 0, none⟩ = some (.string nm)) (c1 : w.cell? ⟨B2, 0, none⟩ = some (.string ds)) :
 Calls Tryz.prog 111 #[.slice ao l.length c, .func (.func 112) #[] #[.pointer (some ⟨B1, 0, none⟩), .pointer (some ⟨B2, 0, none⟩)]] w fun e w' => e = .returned (.int .i64 (ixZ l (isM nm ds))) ∧ Below w.heap.size w w' := by
 have hbig := h.big
 obtain ⟨h1, h2, rows, h3, h4⟩ := h
 refine (idxX { Tryz.hasM with } 9 Tryz.isAgg39 Tryz.sizeOf39 rows l.length (fun j hj => by obtain ⟨_, _, _, _, _, _, e, _⟩ := h4 j l[j] (List.getElem?_eq_getElem hj); rw [e]; rfl) (fun j => isM nm ds (l.getD j ⟨⟨#[]⟩, ⟨#[]⟩, false, false, 0, 0, [], [], []⟩)) 112 #[.pointer (some ⟨B1, 0, none⟩), .pointer (some ⟨B2, 0, none⟩)] (enters_of Tryz.func112 (by kernel_rfl) rfl) ao c w (fun W j hj hW => by
  have e : l.getD j ⟨⟨#[]⟩, ⟨#[]⟩, false, false, 0, 0, [], [], []⟩ = l[j] := by simp [List.getD_eq_getElem?_getD, List.getElem?_eq_getElem hj]
  obtain ⟨_, _, _, _, _, _, er, _⟩ := h4 j l[j] (List.getElem?_eq_getElem hj)
  rw [e, er]
  refine (zS7 l[j] _ _ _ _ _ _ _ _ _ nm ds B1 B2 W (cell_later hW c0) (cell_later hW c1)).mono ?_
  rintro e w' ⟨rfl, hb⟩
  exact ⟨rfl, next hW hb⟩) hbig h3).mono ?_
 rintro e w' ⟨⟨r, rfl, hr⟩, hb⟩
 rw [zQm l _ (isM nm ds) r (fun i x hx => by rw [List.getD_eq_getElem?_getD, hx]; rfl) hr]
 exact ⟨rfl, hb⟩
theorem zJr (m : Mem) (ab : Option Mem) (nm ds : ByteArray) (w : World) (h : zF2 w m ab) :
 Calls Tryz.prog 60 #[.pointer (some ⟨m.b, 0, none⟩), .string nm, .string ds] w fun e w' => e = .returned (.int .i64 (ixZ m.k.ms (isM nm ds))) ∧ Below w.heap.size w w' := by
 have B2 : Below w.heap.size w ((w.alloc (.cells #[.string nm] 9)).alloc (.cells #[.string ds] 9)) := ((Below.refl _ w).alloc (Nat.le_refl _) _).alloc (by simp) _
 obtain ⟨o1, c1, o2, c2, o3, c3, h⟩ := h.ext (zAi B2)
 have e4 := h.e4
 have b1 := zI1 (.cells #[.string ds] 9) (zEr w (.string nm) 9).1
 have b2 := (zEr (w.alloc (.cells #[.string nm] 9)) (.string ds) 9).1
 simp only [World.size_alloc] at b2
 have hI := D.zA0 (ixMeth nm ds w.heap.size (w.heap.size + 1) o3 c3 m.k.ms _ h.k3 b1 b2)
 clear h
 go_enter Tryz.func60, Tryz.ntmps60
 go_wp2_with (go_at_call 111; refine hI.out.mono ?_; rintro e w' ⟨rfl, hb'⟩)
 go_ret
 exact ⟨rfl, next B2 hb'⟩
end Go.Proofs.YtpehimfnkmepnaaGreat.K
namespace Go.Proofs.YtpehimfnkmepnaaGreat.K
open Go.RowKit Go.Shelf Q Q.D
attribute [local go_sem] Oper.semAt_some
def near (q : Mem → Int) : List Mem → Option Mem
 | [] => none
 | m :: l => if 0 ≤ q m then some m else near q l
def zOx (q : Mem → Int) (l : List Mem) : Int := match near q l with | some m => q m | none => -1
theorem zK5 {q : Mem → Int} : ∀ {l : List Mem}, (∀ y ∈ l, q y < 0) → near q l = none
 | [], _ => rfl
 | m :: l, h => by
   unfold near
   rw [if_neg (by have := h m (by simp); omega)]
   exact zK5 (fun y hy => h y (by simp [hy]))
theorem zPc {q : Mem → Int} : ∀ {pre rest : List Mem} {x : Mem}, (∀ y ∈ pre, q y < 0) → 0 ≤ q x → near q (pre ++ x :: rest) = some x
 | [], _, _, _, h => by simp [near, h]
 | m :: l, rest, x, h, h' => by
   have := h m (by simp)
   rw [List.cons_append]
   unfold near
   rw [if_neg (by omega)]
   exact zPc (fun y hy => h y (by simp [hy])) h'
theorem zH4 {W W' : World} (h : Below W.heap.size W W') : KeepsOthers W W' := ⟨h.size, fun k _ hk _ => (h.block k (Array.getElem?_eq_some_iff.1 hk).1).trans hk⟩
theorem Boxed.own {X Y : World} {row : Option Nat} {B : Nat} {t : TypeId} {v : Value} (h : Boxed X B t v) (hg : X.grownBy Y row) (hrow : ∀ r, row = some r → ∃ o : Obj, X.heap[r]? = some o ∧ o.isCells = false) : Boxed Y B t v :=
 h.kept hg (fun e => by obtain ⟨o, ho, hc⟩ := hrow B e.symm; rw [show X.heap[B]? = _ from h] at ho; cases ho; cases hc)
theorem Boxed.below {X Y : World} {B : Nat} {t : TypeId} {v : Value} (h : Boxed X B t v) (hb : Below X.heap.size X Y) : Boxed Y B t v := (hb.block _ h.lt).trans h
def zSa (w W2 : World) (g : Nat) (nm ds : ByteArray) (q : Mem → Int) (pre : List Mem) (W : World) : Prop :=
 ((∀ y ∈ pre, q y < 0) ∧ (Boxed W w.heap.size 116 (.func (.func g) #[] #[]) ∧ Boxed W (w.heap.size + 1) 9 (.string nm) ∧ Boxed W (w.heap.size + 1 + 1) 9 (.string ds)) ∧
  Boxed W (w.heap.size + 1 + 1 + 1) 108 (.pointer none) ∧ Boxed W (w.heap.size + 1 + 1 + 1 + 1) 3 (.int .i64 0)) ∧ Below W2.heap.size W2 W
def nearX (w : World) (q : Mem → Int) (xs : List Mem) (_ : List Mem) (W : World) : Prop :=
 (∃ x, near q xs = some x ∧ W.cell? ⟨w.heap.size + 1 + 1 + 1, 0, none⟩ = some (enc x) ∧ W.cell? ⟨w.heap.size + 1 + 1 + 1 + 1, 0, none⟩ = some (.int .i64 (q x))) ∧ Below w.heap.size w W
def zKl (w : World) (g : Nat) (nm ds : ByteArray) : World :=
 ((((w.alloc (.cells #[.func (.func g) #[] #[]] 116)).alloc (.cells #[.string nm] 9)).alloc (.cells #[.string ds] 9)).alloc (.cells #[.pointer none] 108)).alloc (.cells #[.int .i64 0] 3)
theorem zH0 (g : Nat) (eg : ∀ args w, (callFunc g args).run Tryz.prog w = .ok (.enter g args) w) (q : Mem → Int) (nm ds : ByteArray) (w : World) (p : Option Mem) (xs : List Mem) (hch : zDj w p xs)
 (hq : ∀ W m ab, zF2 W m ab → Calls Tryz.prog g #[.pointer (some ⟨m.b, 0, none⟩), .string nm, .string ds] W fun e w' => e = .returned (.int .i64 (q m)) ∧ Below W.heap.size W w') :
 Calls Tryz.prog 59 #[ptr p, .func (.func g) #[] #[], .string nm, .string ds] w fun e w' => e = .returned (.tuple #[ptr (near q xs), .int .i64 (zOx q xs)]) ∧ Below w.heap.size w w' := by
 refine (callsIn_wide (n := 5)).1 ?_
 have B2 : Below w.heap.size w (zKl w g nm ds) := (((((Below.refl _ w).alloc (Nat.le_refl _) _).alloc (by simp) _).alloc (by simp; omega) _).alloc (by simp; omega) _).alloc (by simp; omega) _
 have hsz : (zKl w g nm ds).heap.size = w.heap.size + 1 + 1 + 1 + 1 + 1 := by unfold zKl; simp
 have start : zSa w (zKl w g nm ds) g nm ds q [] (zKl w g nm ds) := by
  have a1 := Boxed.new w 116 (.func (.func g) #[] #[])
  have a2 := Boxed.new (w.alloc (.cells #[.func (.func g) #[] #[]] 116)) 9 (.string nm)
  have a3 := Boxed.new ((w.alloc (.cells #[.func (.func g) #[] #[]] 116)).alloc (.cells #[.string nm] 9)) 9 (.string ds)
  have a4 := Boxed.new (((w.alloc (.cells #[.func (.func g) #[] #[]] 116)).alloc (.cells #[.string nm] 9)).alloc (.cells #[.string ds] 9)) 108 (.pointer none)
  have a5 := Boxed.new ((((w.alloc (.cells #[.func (.func g) #[] #[]] 116)).alloc (.cells #[.string nm] 9)).alloc (.cells #[.string ds] 9)).alloc (.cells #[.pointer none] 108)) 3 (.int .i64 0)
  simp only [World.size_alloc] at a2 a3 a4 a5
  exact ⟨⟨by simp, ⟨(((a1.alloc _).alloc _).alloc _).alloc _, ((a2.alloc _).alloc _).alloc _, (a3.alloc _).alloc _⟩, a4.alloc _, a5⟩, Below.refl _ _⟩
 refine callsIn_of_wp_marks Tryz.func59 rfl trivial ?_ rfl
 simp only [Tryz.ntmps59, List.size_toArray, List.length_cons, List.length_nil, Nat.reduceAdd, Nat.reduceSub, Array.replicate_succ, Array.replicate_zero, List.push_toArray, List.append_toArray, List.nil_append, List.cons_append]
 gi_wp2
 have hch2 := hch.ext (zAi B2)
 change Code.wpIn _ _ _ _ _ _ (zKl w g nm ds)
 generalize zKl w g nm ds = W2 at *
 refine zEv (α := Mem) (n := 5) rfl (enters_of Tryz.func110 (by kernel_rfl) rfl) enc xs (fun W => Below W2.heap.size W2 W) rfl (zLv 4 W2 p xs hch2)
  (zSa w W2 g nm ds q) (nearX w q xs)
  (OwnFrom.and (Own.from (fun s A B row hs hg hr => ⟨hs.1, ⟨Boxed.own hs.2.1.1 hg hr, Boxed.own hs.2.1.2.1 hg hr, Boxed.own hs.2.1.2.2 hg hr⟩, Boxed.own hs.2.2.1 hg hr, Boxed.own hs.2.2.2 hg hr⟩) _) (zBx (Nat.le_refl _)))
  (OwnFrom.and (Own.from (fun s A B row hs hg hr => by obtain ⟨x, h1, h2, h3⟩ := hs; exact ⟨x, h1, cell_kept h2 hg hr, cell_kept h3 hg hr⟩) _) (zBx (by omega)))
  (fun _ _ h => h.2) start
  (fun x => { tmps := #[ptr p, .func (.func g) #[] #[], .string nm, .string ds, undef, .pointer (some ⟨w.heap.size, 0, none⟩), .pointer (some ⟨w.heap.size + 1, 0, none⟩), .pointer (some ⟨w.heap.size + 1 + 1, 0, none⟩), .pointer (some ⟨w.heap.size + 1 + 1 + 1, 0, none⟩), .pointer (some ⟨w.heap.size + 1 + 1 + 1 + 1, 0, none⟩), .pointer (some ⟨x.b, 0, none⟩), undef, ptr p, .func (.func 110) #[ptr p] #[], .pointer (some ⟨x.b, 0, none⟩), undef, undef, undef, undef, undef, undef, undef, undef, undef], defers := [] })
  ?q0 ?q3 ?q4 ?q5
 case q0 =>
  intro l x W K hK
  unfold enc
  gi_wp2
  exact hK
 case q3 =>
  rintro l pre x rest W hx ⟨⟨hpre, ⟨b1, b2, b3⟩, b4, b5⟩, hB⟩
  obtain ⟨ab, hm⟩ := (hch2.ext (zAi hB)).at x (by rw [hx]; simp)
  have hcall := D.zA0 (hq W x ab hm)
  have HX := D.zA0 hx
  clear hm hx
  have hsW := hB.size
  have e1 : w.heap.size + 1 + 1 + 1 ≠ w.heap.size + 1 + 1 + 1 + 1 := by omega
  have d1 := b1.cell
  have d2 := b2.cell
  have d3 := b3.cell
  by_cases h0 : 0 ≤ q x
  · gi_wp2_with fail
    refine ⟨trivial, (CallsIn.inRound l (callsIn_wide.2 hcall.out)).mono ?_⟩
    rintro e w' ⟨rfl, hb'⟩
    have B4 := Boxed.below b4 hb'
    have B5 := Boxed.below b5 hb'
    have c4 := B4.cell
    have f4 := B4.frozen
    have c5 := B5.cell
    have f5 := B5.frozen
    have s1 := B4.set (enc x)
    have s2 := (B5.other (by omega) (enc x) : Boxed (w'.setCell ⟨w.heap.size + 1 + 1 + 1, 0, none⟩ (enc x)) (w.heap.size + 1 + 1 + 1 + 1) 3 (.int .i64 0))
    have s3 := s2.set (.int .i64 (q x))
    have s4 := (s1.other (by omega) (.int .i64 (q x)) : Boxed ((w'.setCell ⟨w.heap.size + 1 + 1 + 1, 0, none⟩ (enc x)).setCell ⟨w.heap.size + 1 + 1 + 1 + 1, 0, none⟩ (.int .i64 (q x))) (w.heap.size + 1 + 1 + 1) 108 (enc x))
    have fin : ∀ a', zJ7 (zSa w W2 g nm ds q) (nearX w q xs) (pre ++ [x]) W .ret a' ((w'.setCell ⟨w.heap.size + 1 + 1 + 1, 0, none⟩ (enc x)).setCell ⟨w.heap.size + 1 + 1 + 1 + 1, 0, none⟩ (.int .i64 (q x))) := fun a' =>
     ⟨((zH4 hb').trans (KeepsOthers.setCell _ _ _)).trans (KeepsOthers.setCell _ _ _), ⟨x, by rw [HX.out]; exact zPc hpre h0, s4.cell, s3.cell⟩,
      (((B2.trans (hB.mono (by omega))).trans (hb'.mono (by omega))).setCell (p := ⟨w.heap.size + 1 + 1 + 1, 0, none⟩) (by simp; omega) _).setCell (p := ⟨w.heap.size + 1 + 1 + 1 + 1, 0, none⟩) (by simp; omega) _⟩
    have t2 := s2.cell
    have t3 := s2.frozen
    unfold enc at t2 t3 fin
    clear s1 s2 s3 s4 B4 B5
    gi_wp2
    exact fin _
  · gi_wp2_with fail
    refine ⟨trivial, (CallsIn.inRound l (callsIn_wide.2 hcall.out)).mono ?_⟩
    rintro e w' ⟨rfl, hb'⟩
    gi_wp2
    exact ⟨zH4 hb', ⟨fun y hy => (List.mem_append.1 hy).elim (hpre y) (fun e => by simp at e; subst e; omega), ⟨Boxed.below b1 hb', Boxed.below b2 hb', Boxed.below b3 hb'⟩, Boxed.below b4 hb', Boxed.below b5 hb'⟩, hB.trans (hb'.mono hsW)⟩
 case q4 =>
  rintro D W hD ⟨⟨hpre, ⟨b1, b2, b3⟩, b4, b5⟩, hB⟩ hK
  have e1 : w.heap.size + 1 + 1 + 1 ≠ w.heap.size + 1 + 1 + 1 + 1 := by omega
  have c4 := b4.cell
  have f4 := b4.frozen
  have s1 := b4.set (.pointer none)
  have s2 := (b5.other (by omega) (.pointer none) : Boxed (W.setCell ⟨w.heap.size + 1 + 1 + 1, 0, none⟩ (.pointer none)) (w.heap.size + 1 + 1 + 1 + 1) 3 (.int .i64 0))
  have s3 := s2.set (.int .i64 (-1))
  have s4 := (s1.other (by omega) (.int .i64 (-1)) : Boxed ((W.setCell ⟨w.heap.size + 1 + 1 + 1, 0, none⟩ (.pointer none)).setCell ⟨w.heap.size + 1 + 1 + 1 + 1, 0, none⟩ (.int .i64 (-1))) (w.heap.size + 1 + 1 + 1) 108 (.pointer none))
  have t2 := s2.cell
  have t3 := s2.frozen
  have hK' : ((W.setCell ⟨w.heap.size + 1 + 1 + 1, 0, none⟩ (.pointer none)).setCell ⟨w.heap.size + 1 + 1 + 1 + 1, 0, none⟩ (.int .i64 (-1))).heap[D]? = some (.deferred (some [])) := ((KeepsOthers.setCell W _ _).trans (KeepsOthers.setCell _ _ _)).same D _ hK rfl
  have hB' : Below w.heap.size w ((W.setCell ⟨w.heap.size + 1 + 1 + 1, 0, none⟩ (.pointer none)).setCell ⟨w.heap.size + 1 + 1 + 1 + 1, 0, none⟩ (.int .i64 (-1))) := ((B2.trans (hB.mono (by omega))).setCell (p := ⟨w.heap.size + 1 + 1 + 1, 0, none⟩) (by simp; omega) _).setCell (p := ⟨w.heap.size + 1 + 1 + 1 + 1, 0, none⟩) (by simp; omega) _
  have q1 := s4.cell
  have q2 := s3.cell
  clear s1 s2 s3 s4
  gi_wp2
  generalize (W.setCell ⟨w.heap.size + 1 + 1 + 1, 0, none⟩ (.pointer none)).setCell ⟨w.heap.size + 1 + 1 + 1 + 1, 0, none⟩ (.int .i64 (-1)) = W5 at *
  refine ⟨by simp, .inl ⟨_, _, rfl, run_takeDeferred hK', ?_⟩⟩
  have hc5 := cell_kept q1 (grownBy_putObj' _ D (.deferred none)) (fun r e => by cases e; exact ⟨_, hK', rfl⟩)
  have hc6 := cell_kept q2 (grownBy_putObj' _ D (.deferred none)) (fun r e => by cases e; exact ⟨_, hK', rfl⟩)
  refine ⟨.tuple #[.pointer none, .int .i64 (-1)], ?_, ?_, hB'.trans (belowK_b (w := w) (Nat.le_refl _) W5 D _ _ (by omega) hK' rfl rfl)⟩
  · simp [results, Tryz.f59, go_sem, hc5, hc6]
  · unfold zOx; rw [zK5 hpre]; rfl
 case q5 =>
  rintro D pre W hD ⟨⟨x, hx, hc1, hc2⟩, hB⟩ hK
  gi_wp2
  refine ⟨by simp, .inl ⟨_, _, rfl, run_takeDeferred hK, ?_⟩⟩
  have hc5 := cell_kept hc1 (grownBy_putObj' _ D (.deferred none)) (fun r e => by cases e; exact ⟨_, hK, rfl⟩)
  have hc6 := cell_kept hc2 (grownBy_putObj' _ D (.deferred none)) (fun r e => by cases e; exact ⟨_, hK, rfl⟩)
  refine ⟨.tuple #[enc x, .int .i64 (q x)], ?_, ?_, hB.trans (belowK_b (w := w) (Nat.le_refl _) W D _ _ (by omega) hK rfl rfl)⟩
  · simp [results, Tryz.f59, go_sem, hc5, hc6]
  · unfold zOx; rw [hx]; rfl
end Go.Proofs.YtpehimfnkmepnaaGreat.K
