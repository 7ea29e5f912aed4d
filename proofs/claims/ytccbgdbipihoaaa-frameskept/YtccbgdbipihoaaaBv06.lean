/- Texts KE KRF KL KM KP KQ KR KT FRb FRc FRe. -/
import Derived.Test.YtccbgdbipihoaaaBv05
import Derived.RangeFuncNested
import Derived.RangeFuncBound
import Derived.RangeFuncCalls
import Derived.RangeFuncLeaves
import Derived.RangeFuncBox
import Derived.Shelf.Abstract
import Derived.Shelf.RegionOpen
import Derived.WalkKit
import Derived.OwnWalkIn
import Derived.TacticsInMore
import Derived.LoopNIn
import Derived.LoopIn
import Derived.Deep.QuietTactic
import Derived.BigQuiet
import Derived.Deep.CutRange
namespace Go.Proofs.Ytccbgdbipihoaaa.K
open Go.RowKit Q Q.D

structure CcI (w W : World) (nm sup : ByteArray) (pool : List CD) (fs : List FD) (ms : List MD) (a1 : Option Addr) (p1 : Nat) (a4 : Option Addr) (p4 : Nat) (a6 : Option Addr) (p6 : Nat) (rows : Nat → List Value) : Prop where
  X : Blk W w.heap.size #[.string nm, .string sup, .slice a1 pool.length p1, .slice a4 fs.length p4, .slice a6 ms.length p6] 60
  Y : Blk W (w.heap.size + 1) #[.string ⟨#[]⟩, .string ⟨#[]⟩, .slice none 0 0, .slice none 0 0, .slice none 0 0] 60
  B : Below w.heap.size w W
  V : LAt 5 ConstR (seen (newBut (w.heap.size + 2) (.slice a6 ms.length p6)) W) a1 p1 pool
  L : LAt 3 FieldR (seen (newBut (w.heap.size + 2) (.slice a6 ms.length p6)) W) a4 p4 fs
  o : W.ownsRow (w.heap.size + 2) 32 9 (.slice a6 ms.length p6) ms.length (flatR rows ms.length)
  k : ∀ j, j < ms.length → (rows j).length = 9
theorem CcI.below {w W W' : World} {nm sup : ByteArray} {pool : List CD} {fs : List FD} {ms : List MD} {a1 : Option Addr} {p1 : Nat} {a4 : Option Addr} {p4 : Nat} {a6 : Option Addr} {p6 : Nat} {rows : Nat → List Value}
    (I : CcI w W nm sup pool fs ms a1 p1 a4 p4 a6 p6 rows) (h : Below W.heap.size W W') : CcI w W' nm sup pool fs ms a1 p1 a4 p4 a6 p6 rows :=
  ⟨I.X.below h, I.Y.below h, I.B.trans (h.mono I.B.size), LAt.ext I.V (newBut_below h) (fun _ _ h => h), LAt.ext I.L (newBut_below h) (fun _ _ h => h), own_keep I.o h, I.k⟩
theorem CcI.set {w W : World} {nm sup : ByteArray} {pool : List CD} {fs : List FD} {ms : List MD} {a1 : Option Addr} {p1 : Nat} {a4 : Option Addr} {p4 : Nat} {g p6 : Nat} {rows : Nat → List Value}
    (I : CcI w W nm sup pool fs ms a1 p1 a4 p4 (some ⟨g, 0, none⟩) p6 rows) {i t : Nat} (hi : i < ms.length) (ht : t < 9) (u : Value) :
    CcI w (W.setCell ⟨g, i * 9 + t, none⟩ u) nm sup pool fs ms a1 p1 a4 p4 (some ⟨g, 0, none⟩) p6 (setRow rows i t u) := by
  have hg := (I.o.lt g rfl).1
  have E := newBut_set (w := W) (lo := w.heap.size + 2) (v := .slice (some ⟨g, 0, none⟩) ms.length p6) (.inr rfl) (i * 9 + t) u
  refine ⟨I.X.other (by omega) _ _, I.Y.other (by omega) _ _, below_set I.B (by omega) _ _, LAt.ext I.V E (fun _ _ h => h), LAt.ext I.L E (fun _ _ h => h), ?_, setRow_len I.k hi⟩
  rw [← flatR_set I.k hi ht]
  exact (I.o.stored _ _).1


end Go.Proofs.Ytccbgdbipihoaaa.K
namespace Go.Proofs.Ytccbgdbipihoaaa.K
open Go.RowKit Go.Shelf


end Go.Proofs.Ytccbgdbipihoaaa.K
namespace Go.Proofs.Ytccbgdbipihoaaa.K
open Go.RowKit Go.Shelf Q Q.D
attribute [local go_sem] Oper.semAt_some

def enc (m : Mem) : Value := .pointer (some ⟨m.b, 0, none⟩)
theorem Chain.len {w : World} : ∀ {l l' : List Mem} {p q : Option Mem}, ptr p = ptr q → Chain w p l → Chain w q l' → l.length = l'.length
  | [], [], _, _, _, _, _ => rfl
  | [], _ :: _, p, q, e, h, ⟨h1, _⟩ => by cases h; cases h1; simp [ptr] at e
  | _ :: _, [], p, q, e, ⟨h1, _⟩, h => by cases h; cases h1; simp [ptr] at e
  | m :: l, m' :: l', p, q, e, ⟨h1, ab, h2, h3⟩, ⟨h1', ab', h2', h3'⟩ => by
    subst h1; subst h1'
    simp only [ptr, Value.pointer.injEq, Option.some.injEq, Addr.mk.injEq, and_true] at e
    obtain ⟨_, _, _, _, _, _, h⟩ := h2
    obtain ⟨_, _, _, _, _, _, h'⟩ := h2'
    have e5 := h.e5
    rw [e, h'.e5, Option.some.injEq] at e5
    simp only [List.length_cons]
    rw [Chain.len e5.symm h3 h3']

end Go.Proofs.Ytccbgdbipihoaaa.K
namespace Go.Proofs.Ytccbgdbipihoaaa.K
open Go.RowKit Go.Shelf Q Q.D
attribute [local go_sem] Oper.semAt_some

def ents (R : List Mem) : List (ByteArray × Value) := R.reverse.map fun m => (m.k.nm, enc m)
def Apart : List Mem → Prop
  | [] => True
  | m :: o => mfind o m.k.nm = none ∧ Apart o
theorem Mems.apart {w : World} : ∀ {l : List Mem}, Mems w l → Apart l
  | [], _ => trivial
  | _ :: _, ⟨_, h, k⟩ => ⟨h, Mems.apart k⟩
structure KinV (w : World) (pk : Nat) (R : List Mem) (mb : Nat) (ao : Option Addr) (c : Nat) : Prop where
  e0 : w.cell? ⟨pk, 0, none⟩ = some (.slice ao R.length c)
  e1 : w.cell? ⟨pk, 1, none⟩ = some (.map (some mb))
  map : SMap w mb (ents R)
  mems : Mems w R
  names : LAt 1 TextR w ao c (R.reverse.map fun m => m.k.nm)
theorem KinV.below {w w' : World} {pk : Nat} {R : List Mem} {mb : Nat} {ao : Option Addr} {c : Nat} (h : KinV w pk R mb ao c) (hb : Below w.heap.size w w') : KinV w' pk R mb ao c :=
  ⟨(ext_below hb).cell _ _ h.e0, (ext_below hb).cell _ _ h.e1, h.map.kept (hb.block _ h.map.lt), h.mems.ext (ext_below hb), h.names.below hb (fun _ _ h => h)⟩


end Go.Proofs.Ytccbgdbipihoaaa.K
namespace Go.Proofs.Ytccbgdbipihoaaa.K
open Go.RowKit Go.Shelf Go.Lib Go.Proofs Q Q.D

section
variable {P : Program} {ρ : Ren}

end




end Go.Proofs.Ytccbgdbipihoaaa.K
namespace Go.Proofs.Ytccbgdbipihoaaa.K
open Go.RowKit Go.Shelf Q Q.D
attribute [local go_sem] Oper.semAt_some


theorem Boxed.own {X Y : World} {row : Option Nat} {B : Nat} {t : TypeId} {v : Value} (h : Boxed X B t v) (hg : X.grownBy Y row) (hrow : ∀ r, row = some r → ∃ o : Obj, X.heap[r]? = some o ∧ o.isCells = false) : Boxed Y B t v :=
  h.kept hg (fun e => by obtain ⟨o, ho, hc⟩ := hrow B e.symm; rw [show X.heap[B]? = _ from h] at ho; cases ho; cases hc)
theorem Boxed.below {X Y : World} {B : Nat} {t : TypeId} {v : Value} (h : Boxed X B t v) (hb : Below X.heap.size X Y) : Boxed Y B t v := (hb.block _ h.lt).trans h


end Go.Proofs.Ytccbgdbipihoaaa.K
namespace Go.Proofs.Ytccbgdbipihoaaa.K
open Go.RowKit Go.Shelf Go.Lib Go.Proofs Q Q.D
section
variable {P : Program} {ρ : Ren}


end


end Go.Proofs.Ytccbgdbipihoaaa.K
namespace Go.Proofs.Ytccbgdbipihoaaa.K
open Go.RowKit Q Q.D

theorem Mems.at {w : World} : ∀ {R : List Mem}, Mems w R → ∀ m ∈ R, ∃ ab, MemIn w m ab
  | x :: R, ⟨h1, _, h3⟩, m, hm => by
    rcases List.mem_cons.1 hm with rfl | h
    · exact ⟨_, h1⟩
    · exact h3.at m h


theorem results_rowb {fn : Func} {p t1 : Tmp} {ty : TypeId} (h : fn.results = #[.cell p ty, .tmp t1]) (tmps : Array Value) (w : World) (g : Nat) (t : TypeId) (cs : Array Value) (fr : Nat × Nat) (d : TypeDesc)
    (hp : tmps.getD p undef = .pointer (some ⟨g, 0, none⟩)) (hg : w.heap[g]? = some (.cells cs t fr))
    (hu : Try.prog.underlying ty = some d) (hd : (match d with | .struct _ | .array _ _ => true | _ => false) = true) (hi : (Try.prog.info? ty).map (·.size) = some cs.size) :
    (results fn tmps).run Try.prog w = .ok (.tuple #[.agg cs, tmps.getD t1 undef]) w := by
  have hp' : tmps[p]?.getD undef = .pointer (some ⟨g, 0, none⟩) := by simpa using hp
  have hL := run_loadVar_row (P := Try.prog) w g t ty cs fr d hg hu (by cases d <;> simp_all) hi
  simp [results, h, hp', asAddr, hL, Result.andThen]
theorem ClassV.ext {w w' : World} (he : Ext w w') {v : Value} {k : KD} (h : ClassV w v k) : ClassV w' v k := by
  obtain ⟨o1, c1, o2, c2, o3, c3, e, s1, s2, h1, h2, h3⟩ := h
  exact ⟨o1, c1, o2, c2, o3, c3, e, s1, s2, LAt.ext h1 he (fun _ _ h => h), LAt.ext h2 he (fun _ _ h => h), LAt.ext h3 he (fun _ _ h => MethR.ext he h)⟩

end Go.Proofs.Ytccbgdbipihoaaa.K
namespace Go.Proofs.Ytccbgdbipihoaaa.Fr
open Go.RowKit Q Q.D K

def FrV (w : World) (v : Value) (f : RD) : Prop :=
  ∃ o1 c1 o2 c2, v = .agg #[.int .i64 f.aT, .slice o1 f.loc.length c1, .slice o2 f.stk.length c2] ∧ LAt 1 TextR w o1 c1 f.loc ∧ LAt 1 TextR w o2 c2 f.stk
theorem FrV.below {w w' : World} {v : Value} {f : RD} (h : FrV w v f) (hb : Below w.heap.size w w') : FrV w' v f := by
  obtain ⟨o1, c1, o2, c2, e, h1, h2⟩ := h
  exact ⟨o1, c1, o2, c2, e, h1.below hb (fun _ _ h => h), h2.below hb (fun _ _ h => h)⟩
def OwnF (w : World) (B : Nat) (v : Value) (f : RD) : Prop :=
  ∃ v1 v2 m, v = .agg #[.int .i64 f.aT, v1, v2] ∧ OwnT w B v1 f.loc ∧ OwnT w m v2 f.stk ∧ B ≤ m ∧ m ≤ w.heap.size ∧ ∀ k, v1.ownBlock = some k → k < m
theorem OwnT.mono {w : World} {B B' : Nat} {v : Value} {l : List ByteArray} (h : OwnT w B v l) (hB : B' ≤ B) : OwnT w B' v l := by
  refine ⟨h.1, ?_⟩
  rcases h.2 with x | ⟨g, cap, cur, e, hb, r⟩
  · exact .inl x
  · exact .inr ⟨g, cap, cur, e, by omega, r⟩
theorem OwnT.below {w w' : World} {B : Nat} {v : Value} {l : List ByteArray} (h : OwnT w B v l) (hb : Below w.heap.size w w') : OwnT w' B v l := by
  refine ⟨h.1, ?_⟩
  rcases h.2 with x | ⟨g, cap, cur, e, hB, hg, r⟩
  · exact .inl x
  · exact .inr ⟨g, cap, cur, e, hB, (hb.block g (Array.getElem?_eq_some_iff.1 hg).1).trans hg, r⟩
theorem OwnT.nil (w : World) (B : Nat) : OwnT w B (.slice none 0 0) [] := World.ownsRow_nil _ _ _ _
theorem OwnT.other {w : World} {B b : Nat} {v : Value} {l : List ByteArray} {row : Array Value} {t : TypeId} (h : OwnT w B v l) (hb : Blk w b row t) (ht : t ≠ 9) (row' : Array Value) : OwnT (w.setRow b row') B v l := by
  refine ⟨h.1, ?_⟩
  rcases h.2 with x | ⟨g, cap, cur, e, hB, hg, r⟩
  · exact .inl x
  · refine .inr ⟨g, cap, cur, e, hB, ?_, r⟩
    have hne : g ≠ b := fun e => by
      subst e
      have := hb.symm.trans hg
      simp at this
      exact ht this.2
    rw [World.setRow]
    simp only
    rw [Array.getElem?_modify, if_neg (fun e => hne e.symm)]
    exact hg
theorem OwnF.below {w w' : World} {B : Nat} {v : Value} {f : RD} (h : OwnF w B v f) (hb : Below w.heap.size w w') : OwnF w' B v f := by
  obtain ⟨v1, v2, m, e, h1, h2, hm, hw, hk⟩ := h
  exact ⟨v1, v2, m, e, h1.below hb, h2.below hb, hm, Nat.le_trans hw hb.size, hk⟩
theorem OwnF.view {w : World} {B : Nat} {v : Value} {f : RD} (h : OwnF w B v f) (hl : ∀ s ∈ f.loc, s.size ≤ 9223372036854775807) (hs : ∀ s ∈ f.stk, s.size ≤ 9223372036854775807) : FrV w v f := by
  obtain ⟨v1, v2, m, e, h1, h2, _⟩ := h
  obtain ⟨o1, c1, rfl, k1⟩ := h1.at hl
  obtain ⟨o2, c2, rfl, k2⟩ := h2.at hs
  exact ⟨o1, c1, o2, c2, e, k1, k2⟩
theorem FrV.small {w : World} {v : Value} {f : RD} (h : FrV w v f) : (∀ s ∈ f.loc, s.size ≤ 9223372036854775807) ∧ ∀ s ∈ f.stk, s.size ≤ 9223372036854775807 := by
  obtain ⟨_, _, _, _, _, h1, h2⟩ := h
  exact ⟨LAt.small h1, LAt.small h2⟩
theorem lists1 {w : World} {o : Option Addr} {c : Nat} {l : List ByteArray} (h : LAt 1 TextR w o c l) : LAt 1 TextsR (w.alloc (.cells #[.slice o l.length c] 24)) (some ⟨w.heap.size, 0, none⟩) 1 [l] := by
  have hb := balloc w (.cells #[.slice o l.length c] 24)
  refine ⟨Nat.le_refl _, by unfold maxLen; omega, fun _ => [.slice o l.length c], fun _ => ⟨w.heap.size, 0, rfl, by simp, fun j hj i u hu => ?_⟩, fun i x hx => ?_⟩
  · simp at hj
    subst hj
    match i, hu with
    | 0, hu => cases hu; rw [(Blk.new w #[.slice o l.length c] 24).cell]; rfl
    | i + 1, hu => simp at hu
  · match i, hx with
    | 0, hx => cases hx; exact ⟨o, c, rfl, h.below hb (fun _ _ h => h)⟩
    | i + 1, hx => simp at hx
theorem lists2 {w : World} {o o' : Option Addr} {c c' : Nat} {l l' : List ByteArray} (h : LAt 1 TextR w o c l) (h' : LAt 1 TextR w o' c' l') : LAt 1 TextsR (w.alloc (.cells #[.slice o l.length c, .slice o' l'.length c'] 24)) (some ⟨w.heap.size, 0, none⟩) 2 [l, l'] := by
  have hb := balloc w (.cells #[.slice o l.length c, .slice o' l'.length c'] 24)
  refine ⟨Nat.le_refl _, by unfold maxLen; omega, fun j => if j = 0 then [.slice o l.length c] else [.slice o' l'.length c'], fun _ => ⟨w.heap.size, 0, rfl, by simp, fun j hj i u hu => ?_⟩, fun i x hx => ?_⟩
  · rw [(Blk.new w #[.slice o l.length c, .slice o' l'.length c'] 24).cell]
    match j, i, hj, hu with
    | 0, 0, _, hu => cases hu; rfl
    | 1, 0, _, hu => cases hu; rfl
    | 0, i + 1, _, hu => simp at hu
    | 1, i + 1, _, hu => simp at hu
    | j + 2, _, hj, _ => simp at hj; omega
  · match i, hx with
    | 0, hx => cases hx; exact ⟨o, c, rfl, h.below hb (fun _ _ h => h)⟩
    | 1, hx => cases hx; exact ⟨o', c', rfl, h'.below hb (fun _ _ h => h)⟩
    | i + 2, hx => simp at hx
theorem results_row {fn : Func} {p : Tmp} {ty : TypeId} (h : fn.results = #[.cell p ty]) (tmps : Array Value) (w : World) (g : Nat) (t : TypeId) (cs : Array Value) (fr : Nat × Nat) (d : TypeDesc)
    (hp : tmps.getD p undef = .pointer (some ⟨g, 0, none⟩)) (hg : w.heap[g]? = some (.cells cs t fr))
    (hu : Try.prog.underlying ty = some d) (hd : (match d with | .struct _ | .array _ _ => true | _ => false) = true) (hi : (Try.prog.info? ty).map (·.size) = some cs.size) :
    (results fn tmps).run Try.prog w = .ok (.agg cs) w := by
  have hp' : tmps[p]?.getD undef = .pointer (some ⟨g, 0, none⟩) := by simpa using hp
  have hL := run_loadVar_row (P := Try.prog) w g t ty cs fr d hg hu (by cases d <;> simp_all) hi
  simp [results, h, hp', asAddr, hL]
theorem below_setRow {B : Nat} {w w' : World} (h : Below B w w') {b : Nat} (hb : B ≤ b) (row : Array Value) : Below B w (w'.setRow b row) :=
  ⟨h.os, h.tape, h.output, by simpa [World.setRow] using h.size, fun k hk => by
    rw [World.setRow]
    simp only
    rw [Array.getElem?_modify, if_neg (by omega)]
    exact h.block k hk⟩
set_option maxRecDepth 8000 in
set_option maxHeartbeats 2000000 in
theorem made_any (w : World) (at' : Int) (o1 : Option Addr) (c1 : Nat) (l1 : List ByteArray) (ao : Option Addr) (c : Nat) (ls : List (List ByteArray)) (h1 : LAt 1 TextR w o1 c1 l1) (h2 : LAt 1 TextsR w ao c ls) (n1 : l1.length ≤ 8796093022100) (n2 : ls.flatten.length ≤ 8796093022100) :
    Calls Try.prog 22 #[.int .i64 at', .slice o1 l1.length c1, .slice ao ls.length c] w fun e w' => ∃ v, e = .returned v ∧ OwnF w' w.heap.size v ⟨at', l1, ls.flatten⟩ ∧ Below w.heap.size w w' := by
  have B1 := balloc w (.cells #[.int .i64 0, .slice none 0 0, .slice none 0 0] 34)
  have Y1 := Blk.new w #[.int .i64 0, .slice none 0 0, .slice none 0 0] 34
  have k1 := lists1 (h1.below B1 (fun _ _ h => h))
  rw [World.size_alloc] at k1
  have HC1 := D.hidIt (concat_any _ _ _ [l1] k1 (by simp; omega))
  rw [show [l1].length = 1 from rfl] at HC1
  have B2 := B1.trans ((balloc (w.alloc (.cells #[.int .i64 0, .slice none 0 0, .slice none 0 0] 34)) (.cells #[.slice o1 l1.length c1] 24)).mono B1.size)
  have Y2 := Y1.alloc (.cells #[.slice o1 l1.length c1] 24)
  go_enter Try.func22, Try.ntmps22
  go_wp2_with fail
  generalize (w.alloc (.cells #[.int .i64 0, .slice none 0 0, .slice none 0 0] 34)).alloc (.cells #[.slice o1 l1.length c1] 24) = W2 at *
  refine HC1.out.mono ?_
  rintro e w3 ⟨v3, rfl, ow3, b3⟩
  rw [show [l1].flatten = l1 by simp] at ow3
  have B3 := B2.trans (b3.mono B2.size)
  have Y3 := Y2.below b3
  have HC2 := D.hidIt (concat_any w3 ao c ls (h2.below B3 (fun r y h => TextsR.below B3 r y h)) (by omega))
  clear HC1
  go_wp2_with fail
  refine HC2.out.mono ?_
  rintro e w4 ⟨v4, rfl, ow4, b4⟩
  have Y4 := Y3.below b4
  have B4 := B3.trans (b4.mono B3.size)
  have ow3' := ow3.below b4
  obtain ⟨a3, p3, e3, z3⟩ : ∃ ao c, v3 = .slice ao l1.length c ∧ True := by obtain ⟨ao, c, e⟩ := own_slice ow3; exact ⟨ao, c, e, trivial⟩
  obtain ⟨a4, p4, e4, z4⟩ : ∃ ao c, v4 = .slice ao ls.flatten.length c ∧ True := by obtain ⟨ao, c, e⟩ := own_slice ow4; exact ⟨ao, c, e, trivial⟩
  subst e3 e4
  have HO3 := D.hidIt ow3
  have HO3' := D.hidIt ow3'
  have HO4 := D.hidIt ow4
  have hB2 := B2.size
  have hb3 := b3.size
  have hb4 := b4.size
  clear HC2 ow3 ow3' ow4 k1 h1 h2
  obtain ⟨N, hN⟩ : ∃ N, N = ls.flatten.length := ⟨_, rfl⟩
  rw [← hN] at HO4 ⊢
  have HN := D.hidIt hN
  clear hN
  go_wp2_with (refine wpList_store_row rfl 34 _ _ rfl w.heap.size #[.int .i64 at', .slice a3 l1.length p3, .slice a4 N p4] rfl rfl 34 _ Y4 (by kernel_rfl) rfl (by simp [Value.oneCell']) ?_)
  refine bodyPost_ret (results_row rfl _ _ w.heap.size 34 _ (0, 0) _ rfl (setRow_heap _ _ _ _ _ _ Y4) Try.underlying34 rfl (by kernel_rfl)) rfl ?_
  refine ⟨_, rfl, ⟨_, _, w3.heap.size, rfl, (OwnT.other HO3'.out Y4 (by decide) _).mono (by omega), OwnT.other HO4.out Y4 (by decide) _, by omega, by simp [World.setRow]; omega, fun k hk => (HO3.out.lt k hk).2⟩, below_setRow B4 (Nat.le_refl _) _⟩
end Go.Proofs.Ytccbgdbipihoaaa.Fr
namespace Go.Proofs.Ytccbgdbipihoaaa.Fr
open Go.RowKit Q Q.D K

def zeroF : Value := .agg #[.int .i64 0, .slice none 0 0, .slice none 0 0]
set_option maxRecDepth 8000 in
set_option maxHeartbeats 2000000 in
theorem push_ok (w : World) (v : Value) (f : RD) (h : FrV w v f) (most : Int) (o : Option Addr) (c : Nat) (l : List ByteArray) (hl : LAt 1 TextR w o c l) (n1 : f.loc.length ≤ 8796093022000) (n2 : f.stk.length ≤ 8796093022000) (n3 : l.length ≤ 50) (hm : (f.stk.length : Int) + l.length ≤ most) :
    Calls Try.prog 8 #[v, .int .i64 most, .slice o l.length c] w fun e w' => ∃ v', e = .returned (.tuple #[v', .int .i64 0]) ∧ OwnF w' w.heap.size v' ⟨f.aT, f.loc, f.stk ++ l⟩ ∧ Below w.heap.size w w' := by
  obtain ⟨o1, c1, o2, c2, rfl, k1, k2⟩ := h
  obtain ⟨aT, loc, stk⟩ := f
  simp only at *
  have hm' : ¬ (stk.length : Int) + l.length > most := by omega
  have B2 : Below w.heap.size w ((w.alloc (.cells #[.int .i64 aT, .slice o1 loc.length c1, .slice o2 stk.length c2] 34)).alloc (.cells #[.int .i64 0, .slice none 0 0, .slice none 0 0] 34)) := ((Below.refl _ w).alloc (Nat.le_refl _) _).alloc (by simp) _
  have X2 := (Blk.new w #[.int .i64 aT, .slice o1 loc.length c1, .slice o2 stk.length c2] 34).alloc (.cells #[.int .i64 0, .slice none 0 0, .slice none 0 0] 34)
  have Y2 := Blk.new (w.alloc (.cells #[.int .i64 aT, .slice o1 loc.length c1, .slice o2 stk.length c2] 34)) #[.int .i64 0, .slice none 0 0, .slice none 0 0] 34
  rw [World.size_alloc] at Y2
  have hz2 : ((w.alloc (.cells #[.int .i64 aT, .slice o1 loc.length c1, .slice o2 stk.length c2] 34)).alloc (.cells #[.int .i64 0, .slice none 0 0, .slice none 0 0] 34)).heap.size = w.heap.size + 1 + 1 := by simp
  have k1' := D.hidIt (k1.below B2 (fun _ _ h => h))
  have K2 := lists2 (k2.below B2 (fun _ _ h => h)) (hl.below B2 (fun _ _ h => h))
  have B3 := B2.trans ((balloc _ (.cells #[.slice o2 stk.length c2, .slice o l.length c] 24)).mono B2.size)
  have HM := D.hidIt (made_any _ aT o1 c1 loc _ _ [stk, l] (k1.below B3 (fun _ _ h => h)) K2 (by omega) (by simp; omega))
  rw [hz2, show [stk, l].length = 2 from rfl, show [stk, l].flatten = stk ++ l by simp] at HM
  have Y3 := D.hidIt (Y2.alloc (.cells #[.slice o2 stk.length c2, .slice o l.length c] 24))
  have HB3 := D.hidIt B3
  clear K2 k1 k2 hl hz2 B2 B3 X2 Y2 k1'
  go_enter Try.func8, Try.ntmps8
  go_wp2_with fail
  refine HM.out.mono ?_
  rintro e w4 ⟨v4, rfl, of4, b4⟩
  have Y4 := Y3.out.below b4
  have B4 := HB3.out.trans (b4.mono HB3.out.size)
  have hsz := HB3.out.size
  obtain ⟨v1, v2, m, rfl, ow1, ow2, hm1, hm2, hk⟩ := of4
  obtain ⟨a1, p1, rfl⟩ := own_slice ow1
  obtain ⟨a2, p2, rfl⟩ := own_slice ow2
  have O1 := D.hidIt ow1
  have O2 := D.hidIt ow2
  have HK := D.hidIt hk
  clear HM Y3 HB3 ow1 ow2 hk b4
  simp only at *
  obtain ⟨N, hN⟩ : ∃ N, N = (stk ++ l).length := ⟨_, rfl⟩
  rw [← hN] at O2 ⊢
  have HN := D.hidIt hN
  clear hN
  go_wp2_with (refine wpList_store_row rfl 34 _ _ rfl (w.heap.size + 1) #[.int .i64 aT, .slice a1 loc.length p1, .slice a2 N p2] rfl rfl 34 _ Y4 (by kernel_rfl) rfl (by simp [Value.oneCell']) ?_)
  refine bodyPost_ret (results_rowb rfl _ _ (w.heap.size + 1) 34 _ (0, 0) _ rfl (setRow_heap _ _ _ _ _ _ Y4) Try.underlying34 rfl (by kernel_rfl)) rfl ?_
  refine ⟨_, rfl, ⟨_, _, m, rfl, (OwnT.other O1.out Y4 (by decide) _).mono hsz, OwnT.other O2.out Y4 (by decide) _, by omega, by simpa [World.setRow] using hm2, HK.out⟩, below_setRow B4 (by omega) _⟩
end Go.Proofs.Ytccbgdbipihoaaa.Fr
namespace Go.Proofs.Ytccbgdbipihoaaa.Fr
open Go.RowKit Q Q.D K

theorem OwnT.form {w : World} {B : Nat} {v : Value} {l : List ByteArray} (h : OwnT w B v l) (hl : 0 < l.length) : ∃ g cap cur, v = .slice (some ⟨g, 0, none⟩) l.length cap ∧ B ≤ g ∧ w.heap[g]? = some (.cells cur 9 (0, 0)) ∧ l.length ≤ cap ∧ cap ≤ maxLen ∧ cur.size = cap ∧ cur.toList.take l.length = tx l := by
  rcases h.2 with ⟨_, e⟩ | ⟨g, cap, cur, e, hB, hg, h1, h2, h3, h4⟩
  · omega
  · exact ⟨g, cap, cur, e, hB, hg, h1, h2, by simpa using h3, by simpa using h4⟩
theorem OwnT.set {w : World} {B g cap n : Nat} {l : List ByteArray} (h : OwnT w B (.slice (some ⟨g, 0, none⟩) l.length cap) l) (hn : n < l.length) (t : ByteArray) : OwnT (w.setCell ⟨g, n, none⟩ (.string t)) B (.slice (some ⟨g, 0, none⟩) l.length cap) (l.set n t) := by
  obtain ⟨g', cap', cur, e, hB, hg, h1, h2, h3, h4⟩ := h.form (by omega)
  cases e
  refine ⟨by simp [tx], .inr ⟨g, cap, cur.setIfInBounds n (.string t), by simp, hB, ?_, by simpa using h1, h2, by simpa using h3, ?_⟩⟩
  · exact Blk.set (show Blk w g cur 9 from hg) n (.string t)
  · rw [List.length_set, Nat.mul_one, Array.toList_setIfInBounds, List.take_set, h4, tx, tx, List.map_set]
theorem OwnT.cell {w : World} {B g cap n : Nat} {l : List ByteArray} (h : OwnT w B (.slice (some ⟨g, 0, none⟩) l.length cap) l) {s : ByteArray} (hn : l[n]? = some s) : w.cell? ⟨g, n, none⟩ = some (.string s) ∧ w.frozen? ⟨g, n, none⟩ = false := by
  have hlt := (List.getElem?_eq_some_iff.1 hn).1
  obtain ⟨g', cap', cur, e, hB, hg, h1, h2, h3, h4⟩ := h.form (by omega)
  cases e
  refine ⟨?_, Blk.frozen (show Blk w g cur 9 from hg) n⟩
  have := h.cells (g := g) rfl n (.string s) (by simp [tx, hn])
  rwa [Addr.add_lit, Nat.zero_add] at this
theorem OwnT.other_cell {w : World} {B g n : Nat} {v u : Value} {l : List ByteArray} (h : OwnT w B v l) (hne : v.ownBlock ≠ some g) : OwnT (w.setCell ⟨g, n, none⟩ u) B v l := ownsRow_setCell_other (a := ⟨g, n, none⟩) h hne u
set_option maxRecDepth 8000 in
set_option maxHeartbeats 2000000 in
theorem set_ok (w : World) (v : Value) (f : RD) (h : FrV w v f) (n : Nat) (t : ByteArray) (n1 : f.loc.length ≤ 8796093022050) (n2 : f.stk.length ≤ 8796093022050) (hn : n < f.loc.length) :
    Calls Try.prog 13 #[v, .int .i64 (n : Int), .string t] w fun e w' => ∃ v', e = .returned (.tuple #[v', .int .i64 0]) ∧ OwnF w' w.heap.size v' ⟨f.aT, f.loc.set n t, f.stk⟩ ∧ Below w.heap.size w w' := by
  obtain ⟨o1, c1, o2, c2, rfl, k1, k2⟩ := h
  obtain ⟨aT, loc, stk⟩ := f
  simp only at *
  have hn0 : ¬ (n : Int) < 0 := by omega
  have hn1 : ¬ (n : Int) ≥ (loc.length : Int) := by omega
  have hn2 : (n : Int) < (loc.length : Int) := by omega
  have B2 : Below w.heap.size w ((w.alloc (.cells #[.int .i64 aT, .slice o1 loc.length c1, .slice o2 stk.length c2] 34)).alloc (.cells #[.int .i64 0, .slice none 0 0, .slice none 0 0] 34)) := ((Below.refl _ w).alloc (Nat.le_refl _) _).alloc (by simp) _
  have Y2 := Blk.new (w.alloc (.cells #[.int .i64 aT, .slice o1 loc.length c1, .slice o2 stk.length c2] 34)) #[.int .i64 0, .slice none 0 0, .slice none 0 0] 34
  rw [World.size_alloc] at Y2
  have hz2 : ((w.alloc (.cells #[.int .i64 aT, .slice o1 loc.length c1, .slice o2 stk.length c2] 34)).alloc (.cells #[.int .i64 0, .slice none 0 0, .slice none 0 0] 34)).heap.size = w.heap.size + 1 + 1 := by simp
  have K2 := lists1 (k2.below B2 (fun _ _ h => h))
  have B3 := B2.trans ((balloc _ (.cells #[.slice o2 stk.length c2] 24)).mono B2.size)
  have HM := D.hidIt (made_any _ aT o1 c1 loc _ _ [stk] (k1.below B3 (fun _ _ h => h)) K2 (by omega) (by simp; omega))
  rw [hz2, show [stk].length = 1 from rfl, show [stk].flatten = stk by simp] at HM
  have Y3 := D.hidIt (Y2.alloc (.cells #[.slice o2 stk.length c2] 24))
  have HB3 := D.hidIt B3
  clear K2 k1 k2 hz2 B2 B3 Y2
  go_enter Try.func13, Try.ntmps13
  go_wp2_with fail
  refine HM.out.mono ?_
  rintro e w4 ⟨v4, rfl, of4, b4⟩
  have Y4 := Y3.out.below b4
  have B4 := HB3.out.trans (b4.mono HB3.out.size)
  have hsz := HB3.out.size
  have hY4 := Y4.lt
  obtain ⟨v1, v2, m, rfl, ow1, ow2, hm1, hm2, hk⟩ := of4
  simp only at ow1 ow2
  obtain ⟨g, p1, cur, rfl, hg0, hg, _⟩ := ow1.form (by omega)
  obtain ⟨a2, p2, rfl⟩ := own_slice ow2
  have hg1 := hg0
  simp only [World.size_alloc] at hg1
  have hgl := (Array.getElem?_eq_some_iff.1 hg).1
  have hgm := hk g rfl
  have F5 := Blk.new w4 #[.int .i64 0, .slice none 0 0, .slice none 0 0] 34
  have b5 := balloc w4 (.cells #[.int .i64 0, .slice none 0 0, .slice none 0 0] 34)
  have O1 := D.hidIt ((ow1.below b5).other F5 (by decide) #[.int .i64 aT, .slice (some ⟨g, 0, none⟩) loc.length p1, .slice a2 stk.length p2])
  have O2 := D.hidIt ((ow2.below b5).other F5 (by decide) #[.int .i64 aT, .slice (some ⟨g, 0, none⟩) loc.length p1, .slice a2 stk.length p2])
  have F6 := setRow_heap _ _ _ #[.int .i64 aT, .slice (some ⟨g, 0, none⟩) loc.length p1, .slice a2 stk.length p2] _ _ F5
  have Y5 := Y4.below b5
  have Y6 : Blk ((w4.alloc (.cells #[.int .i64 0, .slice none 0 0, .slice none 0 0] 34)).setRow w4.heap.size #[.int .i64 aT, .slice (some ⟨g, 0, none⟩) loc.length p1, .slice a2 stk.length p2]) (w.heap.size + 1) #[.int .i64 0, .slice none 0 0, .slice none 0 0] 34 := by
    show _ = _
    rw [World.setRow]
    simp only
    rw [Array.getElem?_modify, if_neg (by omega)]
    exact Y5
  have B6 := D.hidIt (below_setRow (B4.trans (b5.mono B4.size)) (show w.heap.size ≤ w4.heap.size by omega) #[.int .i64 aT, .slice (some ⟨g, 0, none⟩) loc.length p1, .slice a2 stk.length p2])
  have HY6 := D.hidIt Y6
  have HF6 := D.hidIt F6
  have hz6 : m ≤ ((w4.alloc (.cells #[.int .i64 0, .slice none 0 0, .slice none 0 0] 34)).setRow w4.heap.size #[.int .i64 aT, .slice (some ⟨g, 0, none⟩) loc.length p1, .slice a2 stk.length p2]).heap.size := by simp [World.setRow]; omega
  clear HM Y3 HB3 b4 ow1 ow2 hg Y4 Y5 Y6 F6
  go_upto_region 4 with (refine wpList_store_row rfl 34 _ _ rfl w4.heap.size #[.int .i64 aT, .slice (some ⟨g, 0, none⟩) loc.length p1, .slice a2 stk.length p2] rfl rfl 34 _ F5 (by kernel_rfl) rfl (by simp [Value.oneCell']) ?_)
  generalize (w4.alloc (.cells #[.int .i64 0, .slice none 0 0, .slice none 0 0] 34)).setRow w4.heap.size #[.int .i64 aT, .slice (some ⟨g, 0, none⟩) loc.length p1, .slice a2 stk.length p2] = W6 at *
  have X6 : Blk W6 w4.heap.size #[.int .i64 aT, .slice (some ⟨g, 0, none⟩) loc.length p1, .slice a2 stk.length p2] 34 := HF6.out
  have x1 := X6.cell 1
  simp at x1
  obtain ⟨s0, hs0⟩ : ∃ s, loc[n]? = some s := ⟨_, List.getElem?_eq_getElem hn⟩
  obtain ⟨y0, y1⟩ := O1.out.cell hs0
  have O7 := D.hidIt (OwnT.set O1.out hn t)
  have O8 := D.hidIt (O2.out.other_cell (g := g) (n := n) (u := .string t) (fun e => by have := (O2.out.lt g e).1; omega))
  have X7 := X6.other (b' := g) (by omega) n (.string t)
  have Y7 := Blk.other HY6.out (b' := g) (by omega) n (.string t)
  have B7 := D.hidIt (below_set B6.out (show w.heap.size ≤ g by omega) n (.string t))
  have z0 := X7.cell 0
  have z1 := X7.cell 1
  have z2 := X7.cell 2
  simp at z0 z1 z2
  clear O1 O2 hs0
  go_wp2_with (refine wpList_store_row rfl 34 _ _ rfl (w.heap.size + 1) #[.int .i64 aT, .slice (some ⟨g, 0, none⟩) loc.length p1, .slice a2 stk.length p2] rfl rfl 34 _ Y7 (by kernel_rfl) rfl (by simp [Value.oneCell']) ?_)
  refine bodyPost_ret (results_rowb rfl _ _ (w.heap.size + 1) 34 _ (0, 0) _ rfl (setRow_heap _ _ _ _ _ _ Y7) Try.underlying34 rfl (by kernel_rfl)) rfl ?_
  have hz7 : m ≤ (W6.setCell ⟨g, n, none⟩ (.string t)).heap.size := by simpa [World.setCell] using hz6
  refine ⟨_, rfl, ⟨_, _, m, rfl, ?_, OwnT.other O8.out Y7 (by decide) _, by omega, by simpa [World.setRow] using hz7, fun k hk => ?_⟩, below_setRow B7.out (by omega) _⟩
  · have := (OwnT.other O7.out Y7 (by decide) #[.int .i64 aT, .slice (some ⟨g, 0, none⟩) loc.length p1, .slice a2 stk.length p2]).mono hsz
    simpa using this
  · simp [Value.ownBlock] at hk
    omega
set_option maxRecDepth 8000 in
set_option maxHeartbeats 2000000 in
theorem set_no (w : World) (v : Value) (f : RD) (h : FrV w v f) (n : Int) (t : ByteArray) (hn : n < 0 ∨ (f.loc.length : Int) ≤ n) :
    Calls Try.prog 13 #[v, .int .i64 n, .string t] w fun e w' => e = .returned (.tuple #[zeroF, .int .i64 19]) ∧ Below w.heap.size w w' := by
  obtain ⟨o1, c1, o2, c2, rfl, k1, k2⟩ := h
  obtain ⟨aT, loc, stk⟩ := f
  simp only at *
  have B2 : Below w.heap.size w ((w.alloc (.cells #[.int .i64 aT, .slice o1 loc.length c1, .slice o2 stk.length c2] 34)).alloc (.cells #[.int .i64 0, .slice none 0 0, .slice none 0 0] 34)) := ((Below.refl _ w).alloc (Nat.le_refl _) _).alloc (by simp) _
  have Y2 := Blk.new (w.alloc (.cells #[.int .i64 aT, .slice o1 loc.length c1, .slice o2 stk.length c2] 34)) #[.int .i64 0, .slice none 0 0, .slice none 0 0] 34
  rw [World.size_alloc] at Y2
  clear k1 k2
  have hd : decide (n < 0) = true ∨ decide (n < 0) = false ∧ (n ≥ (loc.length : Int)) := by
    by_cases h0 : n < 0
    · exact .inl (by simpa using h0)
    · exact .inr ⟨by simpa using h0, by omega⟩
  rcases hd with hd | ⟨hd, hge⟩
  · have hn0 : n < 0 := by simpa using hd
    go_enter Try.func13, Try.ntmps13
    go_wp2_with (refine wpList_store_row rfl 34 _ _ rfl (w.heap.size + 1) #[.int .i64 0, .slice none 0 0, .slice none 0 0] rfl rfl 34 _ Y2 (by kernel_rfl) rfl (by simp [Value.oneCell']) ?_)
    refine bodyPost_ret (results_rowb rfl _ _ (w.heap.size + 1) 34 _ (0, 0) _ rfl (setRow_heap _ _ _ _ _ _ Y2) Try.underlying34 rfl (by kernel_rfl)) rfl ?_
    exact ⟨rfl, below_setRow B2 (by omega) _⟩
  · have hn0 : ¬ n < 0 := by simpa using hd
    go_enter Try.func13, Try.ntmps13
    go_wp2_with (refine wpList_store_row rfl 34 _ _ rfl (w.heap.size + 1) #[.int .i64 0, .slice none 0 0, .slice none 0 0] rfl rfl 34 _ Y2 (by kernel_rfl) rfl (by simp [Value.oneCell']) ?_)
    refine bodyPost_ret (results_rowb rfl _ _ (w.heap.size + 1) 34 _ (0, 0) _ rfl (setRow_heap _ _ _ _ _ _ Y2) Try.underlying34 rfl (by kernel_rfl)) rfl ?_
    exact ⟨rfl, below_setRow B2 (by omega) _⟩
end Go.Proofs.Ytccbgdbipihoaaa.Fr
