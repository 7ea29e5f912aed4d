/- Load: walked. -/
import Derived.Test.YtacmooknfbjpeaaLIp
import Derived.Test.YtacmooknfbjpeaaLHb
namespace Go.Proofs.Ytacmooknfbjpeaa.J
open Go.RowKit Go.MapKept Go.ChangeMaps Go.Shelf
attribute [local go_sem] Oper.semAt_some
set_option linter.unusedVariables false
variable {n0 : Nat} {w : World} {H : LB} {S : Ls}

theorem load_res (W : World) (tm : Array Value) {b6 b7 b8 : Nat} {a b c : Value} (h6 : tm[6]?.getD undef = .pointer (some ⟨b6, 0, none⟩)) (h7 : tm[7]?.getD undef = .pointer (some ⟨b7, 0, none⟩)) (h8 : tm[8]?.getD undef = .pointer (some ⟨b8, 0, none⟩))
    (c6 : W.cell? ⟨b6, 0, none⟩ = some a) (c7 : W.cell? ⟨b7, 0, none⟩ = some b) (c8 : W.cell? ⟨b8, 0, none⟩ = some c) : (results Try.f12 tm).run Try.prog W = .ok (.tuple #[a, b, c]) W := by
  simp [results, Try.f12, go_sem, h6, h7, h8, c6, c7, c8]
theorem LoV.past {W W' : World} {S' : Ls} (hv : LoV n0 W H S') (hs : LStep H H w W) (hH : ∀ b, H.has b → b < w.heap.size) (hk : ∀ b, b < w.heap.size → W'.heap[b]? = W.heap[b]?) (h1 : W'.os = W.os) (h2 : W'.tape = W.tape) (h3 : W'.output = W.output) (h4 : W.heap.size ≤ W'.heap.size) : LoV n0 W' H S' ∧ LStep H H w W' :=
  ⟨hv.kept fun b e => hk b (hH b e), h1.trans hs.os, h2.trans hs.tape, h3.trans hs.output, Nat.le_trans hs.size h4, fun b hb hn => (hk b hb).trans (hs.block b hb hn), rfl, fun b e => .inl e⟩
theorem stores3 {W : World} {b6 b7 b8 : Nat} {t6 t7 t8 : TypeId} {u6 u7 u8 : Value} (x6 : Boxed W b6 t6 u6) (x7 : Boxed W b7 t7 u7) (x8 : Boxed W b8 t8 u8) (h1 : b6 < b7) (h2 : b7 < b8) (v6 v7 v8 : Value) :
    Boxed (((W.setCell ⟨b6, 0, none⟩ v6).setCell ⟨b7, 0, none⟩ v7).setCell ⟨b8, 0, none⟩ v8) b6 t6 v6 ∧ Boxed (((W.setCell ⟨b6, 0, none⟩ v6).setCell ⟨b7, 0, none⟩ v7).setCell ⟨b8, 0, none⟩ v8) b7 t7 v7 ∧ Boxed (((W.setCell ⟨b6, 0, none⟩ v6).setCell ⟨b7, 0, none⟩ v7).setCell ⟨b8, 0, none⟩ v8) b8 t8 v8 ∧
    (∀ b, b ≠ b6 → b ≠ b7 → b ≠ b8 → (((W.setCell ⟨b6, 0, none⟩ v6).setCell ⟨b7, 0, none⟩ v7).setCell ⟨b8, 0, none⟩ v8).heap[b]? = W.heap[b]?) :=
  ⟨((x6.set v6).other (by omega) v7).other (by omega) v8, ((x7.other (by omega) v6).set v7).other (by omega) v8, ((x8.other (by omega) v6).other (by omega) v7).set v8,
    fun b e6 e7 e8 => ((heap_setCell_other _ ⟨b8, 0, none⟩ b _ e8).trans (heap_setCell_other _ ⟨b7, 0, none⟩ b _ e7)).trans (heap_setCell_other _ ⟨b6, 0, none⟩ b _ e6)⟩
abbrev GWi (S : Ls) := { x : Wi // S.Good x }
/-- Between two rounds. -/
def LdI (n0 : Nat) (w : World) (H : LB) (S : Ls) (B b0 b6 b7 b8 : Nat) (pre : List (Nat × GWi S)) (W : World) : Prop :=
  B ≤ W.heap.size ∧ (grants (pre.map fun x => x.2.1) S).2 = 0 ∧ LoV n0 W H (grants (pre.map fun x => x.2.1) S).1 ∧ LStep H H w W ∧ Boxed W b0 22 (.pointer (some ⟨H.hb, 0, none⟩)) ∧ Boxed W b6 3 (.int .i64 0) ∧ Boxed W b7 3 (.int .i64 0) ∧ Boxed W b8 24 (.int .i64 0)
/-- A round has left. -/
def LdX (n0 : Nat) (w : World) (H : LB) (S : Ls) (b6 b7 b8 : Nat) (c : Code) (pre : List (Nat × GWi S)) (W : World) : Prop :=
  c = .ret ∧ (grants (pre.map fun x => x.2.1) S).2 ≠ 0 ∧ LoV n0 W H (grants (pre.map fun x => x.2.1) S).1 ∧ LStep H H w W ∧ Boxed W b6 3 (.int .i64 0) ∧ Boxed W b7 3 (.int .i64 0) ∧ Boxed W b8 24 (.int .i64 (grants (pre.map fun x => x.2.1) S).2)
theorem lev {B : Nat} {W W' : World} {row : Option Nat} (hg : W.grownBy W' row) (hr : ∀ r, row = some r → B ≤ r ∧ ∃ o : Obj, W.heap[r]? = some o ∧ o.isCells = false) : ∀ b, b < B → b < W.heap.size → W'.heap[b]? = W.heap[b]? :=
  fun b h1 h2 => hg.block b h2 fun e => by have := (hr b e.symm).1; omega
theorem lev_step {B : Nat} {W W' : World} {row : Option Nat} {S' : Ls} (hv : LoV n0 W H S') (hs : LStep H H w W) (hH : ∀ b, H.has b → b < w.heap.size) (hB : w.heap.size ≤ B) (hg : W.grownBy W' row) (hr : ∀ r, row = some r → B ≤ r ∧ ∃ o : Obj, W.heap[r]? = some o ∧ o.isCells = false) : LoV n0 W' H S' ∧ LStep H H w W' :=
  hv.past hs hH (fun b hb => lev hg hr b (by omega) (by have := hs.size; omega)) hg.os hg.tape hg.output hg.size
theorem lev_box {B b : Nat} {W W' : World} {row : Option Nat} {t : TypeId} {u : Value} (x : Boxed W b t u) (hb : b < B) (hg : W.grownBy W' row) (hr : ∀ r, row = some r → B ≤ r ∧ ∃ o : Obj, W.heap[r]? = some o ∧ o.isCells = false) : Boxed W' b t u := (lev hg hr b hb x.lt).trans x
theorem ldI_own {B b0 b6 b7 b8 : Nat} (hH : ∀ b, H.has b → b < w.heap.size) (hB : w.heap.size ≤ B) (h0 : b0 < B) (h6 : b6 < B) (h7 : b7 < B) (h8 : b8 < B) : OwnFrom B (LdI n0 w H S B b0 b6 b7 b8) := fun s W W' row ⟨hz, a, hv, hs, x0, x6, x7, x8⟩ hg hr =>
  ⟨Nat.le_trans hz hg.size, a, (lev_step hv hs hH hB hg hr).1, (lev_step hv hs hH hB hg hr).2, lev_box x0 h0 hg hr, lev_box x6 h6 hg hr, lev_box x7 h7 hg hr, lev_box x8 h8 hg hr⟩
theorem ldX_own {B b6 b7 b8 : Nat} (hH : ∀ b, H.has b → b < w.heap.size) (hB : w.heap.size ≤ B) (h6 : b6 < B) (h7 : b7 < B) (h8 : b8 < B) (c : Code) : OwnFrom B (LdX n0 w H S b6 b7 b8 c) := fun s W W' row ⟨a, e, hv, hs, x6, x7, x8⟩ hg hr =>
  ⟨a, e, (lev_step hv hs hH hB hg hr).1, (lev_step hv hs hH hB hg hr).2, lev_box x6 h6 hg hr, lev_box x7 h7 hg hr, lev_box x8 h8 hg hr⟩
/-- A wish as it is handed over lies in a block of its own. -/
def LdA (S : Ls) (B : Nat) (f : Value → Value → Value → Array Value) (x : Nat × GWi S) (a' : Act) (W : World) : Prop := ∃ Bx, B ≤ Bx ∧ Blk W Bx #[.string x.2.1.nm, .int .i64 (x.2.1.fi : Int), .int .i64 (x.2.1.dn : Int)] 75 ∧ a' = { tmps := f (.pointer (some ⟨Bx, 0, none⟩)) (.int .i64 (x.1 : Int)) (.agg #[.string x.2.1.nm, .int .i64 (x.2.1.fi : Int), .int .i64 (x.2.1.dn : Int)]), defers := [] }
theorem ldA_own (B : Nat) (f : Value → Value → Value → Array Value) (x : Nat × GWi S) (a' : Act) : OwnFrom B (fun (_ : Unit) W => LdA S B f x a' W) := fun s W W' row ⟨Bx, hB, hx, e⟩ hg hr =>
  ⟨Bx, hB, (hg.block Bx hx.lt fun e2 => by
    obtain ⟨-, o, ho, hc⟩ := hr Bx e2.symm
    unfold Blk at hx
    rw [hx] at ho
    cases ho
    cases hc).trans hx, e⟩
theorem grant_good {W : World} {S' : Ls} (h : LoV n0 W H S') {x : Wi} (g : S'.Good x) : Calls Try.prog 30 #[.pointer (some ⟨H.hb, 0, none⟩), .agg #[.string x.nm, .int .i64 (x.fi : Int), .int .i64 (x.dn : Int)]] W fun e w' => e = .returned (.int .i64 (S'.grant x).2) ∧ LoV n0 w' H (S'.grant x).1 ∧ LStep H H W w' := by
  obtain ⟨a, b, ⟨l, hl⟩, d⟩ := g
  have := grant_any h a b x.nm hl d
  unfold Ls.grant
  rw [hl]
  exact this
def LoadQ (n0 : Nat) (w : World) (H : LB) (r : Ls × Int × Int × Int) (e : Ending) (w' : World) : Prop := e = .returned (.tuple #[.int .i64 r.2.1, .int .i64 r.2.2.1, .int .i64 r.2.2.2]) ∧ LoV n0 w' H r.1 ∧ LStep H H w w'
set_option maxRecDepth 100000 in
set_option maxHeartbeats 4000000 in
theorem Load_in (h : LoV n0 w H S) (n : Int) (nm : ByteArray) {r : Ls × Int × Int × Int} (hr : S.loadR n nm = some r) (m : Nat) (hm : 6 ≤ m) : CallsIn Fence.wide m Try.prog 12 #[H.ptr, .int .i64 n, .string nm] w (LoadQ n0 w H r) := by
  have hro : Fence.wide.round = none := rfl
  have h1 : 1 ≤ m := by omega
  have HV := hidIt h
  have hH : Hid (∀ b, H.has b → b < w.heap.size) := hidIt fun b e => (h.lt e).2
  have G := hidIt (fun (W : World) (hb : Below w.heap.size w W) => lhas_any (h.below hb) n)
  unfold Ls.loadR at hr
  unfold LB.ptr at *
  refine callsIn_of_wp_marks Try.func12 rfl trivial ?_ hro
  simp only [Try.ntmps12, List.size_toArray, List.length_cons, List.length_nil, Nat.reduceAdd, Nat.reduceSub, Array.replicate_succ, Array.replicate_zero, List.push_toArray, List.append_toArray, List.nil_append, List.cons_append]
  gi_wp2
  generalize hW0 : (((w.alloc (Obj.cells #[Value.pointer (some { block := H.hb, off := 0 })] 22)).alloc (Obj.cells #[Value.int IntKind.i64 0] 3)).alloc (Obj.cells #[Value.int IntKind.i64 0] 3)).alloc (Obj.cells #[Value.int IntKind.i64 0] 24) = W0
  have hz0 : W0.heap.size = w.heap.size + 4 := by rw [← hW0]; simp
  have B0 : Hid (Below w.heap.size w W0) := hidIt (by rw [← hW0]; exact (((balloc _ _).alloc (by simp) _).alloc (by simp; omega) _).alloc (by simp; omega) _)
  have x0 : Boxed W0 w.heap.size 22 (.pointer (some ⟨H.hb, 0, none⟩)) := by rw [← hW0]; exact (((Boxed.new w _ _).alloc _).alloc _).alloc _
  have x6 : Boxed W0 (w.heap.size + 1) 3 (.int .i64 0) := by
    rw [← hW0]
    have := Boxed.new (w.alloc (Obj.cells #[Value.pointer (some { block := H.hb, off := 0 })] 22)) 3 (.int .i64 0)
    rw [World.size_alloc] at this
    exact (this.alloc _).alloc _
  have x7 : Boxed W0 (w.heap.size + 1 + 1) 3 (.int .i64 0) := by
    rw [← hW0]
    have := Boxed.new ((w.alloc (Obj.cells #[Value.pointer (some { block := H.hb, off := 0 })] 22)).alloc (Obj.cells #[Value.int IntKind.i64 0] 3)) 3 (.int .i64 0)
    rw [World.size_alloc, World.size_alloc] at this
    exact this.alloc _
  have x8 : Boxed W0 (w.heap.size + 1 + 1 + 1) 24 (.int .i64 0) := by
    rw [← hW0]
    have := Boxed.new (((w.alloc (Obj.cells #[Value.pointer (some { block := H.hb, off := 0 })] 22)).alloc (Obj.cells #[Value.int IntKind.i64 0] 3)).alloc (Obj.cells #[Value.int IntKind.i64 0] 3)) 24 (.int .i64 0)
    rw [World.size_alloc, World.size_alloc, World.size_alloc] at this
    exact this
  clear hW0
  generalize hb8 : w.heap.size + 1 + 1 + 1 = b8 at *
  generalize hb7 : w.heap.size + 1 + 1 = b7 at *
  generalize hb6 : w.heap.size + 1 = b6 at *
  have hbs : w.heap.size < b6 ∧ b6 < b7 ∧ b7 < b8 ∧ b8 < W0.heap.size := by omega
  clear hb6 hb7 hb8 hz0
  obtain ⟨q1, q2, q3, q4⟩ := hbs
  refine ⟨trivial, ?_⟩
  refine (callsIn_wide.2 (G.out W0 B0.out)).mono ?_
  rintro e w' ⟨rfl, rfl⟩
  have y0 := x0.cell
  have y6 := x6.cell
  have z6 := x6.frozen
  have y7 := x7.cell
  have z7 := x7.frozen
  have y8 := x8.cell
  have z8 := x8.frozen
  clear G
  cases hh : S.hasB n with
  | false =>
    rw [hh] at hr
    simp only [Bool.false_eq_true, if_false, Option.some.injEq] at hr
    subst hr
    gi_wp2
    obtain ⟨p6, p7, p8, po⟩ := stores3 x6 x7 x8 q2 q3 (.int .i64 0) (.int .i64 0) (.int .i64 1)
    refine ⟨_, load_res _ _ rfl rfl rfl p6.cell p7.cell p8.cell, rfl, ?_⟩
    exact (HV.out.below B0.out).past (LStep.of_below B0.out) hH.out (fun b hb => po b (by omega) (by omega) (by omega)) rfl rfl rfl (by simp)
  | true =>
    rw [hh] at hr
    simp only [if_true] at hr
    obtain ⟨i, x, rfl, hi, hx⟩ := has_lt hh
    rw [Int.toNat_natCast] at hr
    cases hw : S.wish 50 i nm [] [] with
    | none => rw [hw] at hr; cases hr
    | some q =>
      obtain ⟨zs, er⟩ := q
      rw [hw] at hr
      dsimp only at hr
      have GW := hidIt (wishes_any (HV.out.below B0.out) hi nm hw)
      unfold LB.ptr at GW
      have hzl := wish_len S 50 i nm [] [] zs er hw
      have hzg := wish_good S 50 i nm [] [] zs er hi (fun x hx => by simp at hx) hw
      clear hw hh
      simp only [List.length_nil, Nat.zero_add] at hzl
      by_cases he : er = 0
      · subst he
        rw [if_pos rfl] at hr
        gi_wp2_with (first
          | (refine ⟨trivial, ?_⟩; gi_at_call 28; refine (callsIn_wide.2 GW.out).mono ?_; rintro e w1 ⟨v, rfl, ho, hb1⟩; obtain ⟨ao, cap, rfl⟩ := own_slice ho; have HO := hidIt ho; have B1 := hidIt hb1; have X1 := hidIt (And.intro (show Boxed w1 w.heap.size _ _ from (hb1.block _ x0.lt).trans x0) (And.intro (show Boxed w1 b6 _ _ from (hb1.block _ x6.lt).trans x6) (And.intro (show Boxed w1 b7 _ _ from (hb1.block _ x7.lt).trans x7) (show Boxed w1 b8 _ _ from (hb1.block _ x8.lt).trans x8)))); clear ho hb1)
          | (refine ⟨trivial, ?_⟩; gi_at_call 29; refine (back_in Fence.wide _ trivial rfl _ _ _ _).mono ?_; rintro e w2 ⟨rfl, rfl⟩))
        obtain ⟨zs', hzs⟩ : ∃ zs' : List (GWi S), zs'.map (·.1) = zs := ⟨zs.attach.map fun x => ⟨x.1, hzg x.1 x.2⟩, by simp⟩
        have hzl' : zs'.length = zs.length := by rw [← hzs, List.length_map]
        have HO2 : Hid ((w1.alloc (.cells #[.slice ao zs.length cap] 68)).ownsRow w'.heap.size 75 3 (.slice ao zs.length cap) zs'.length (wiC (zs'.map (·.1)))) := hidIt (by rw [hzs, hzl']; exact own_below HO.out (balloc _ _))
        have hao : ∀ b, (Value.slice ao zs.length cap).ownBlock = some b → w'.heap.size ≤ b ∧ b < w1.heap.size := fun b e => HO.out.lt b e
        have hs1 := B1.out.size
        obtain ⟨w2, hw2⟩ : ∃ w2, w1.alloc (.cells #[.slice ao zs.length cap] 68) = w2 := ⟨_, rfl⟩
        have hbx : Boxed w2 w1.heap.size 68 (.slice ao zs.length cap) := by rw [← hw2]; exact Boxed.new _ _ _
        have hz2 : w1.heap.size < w2.heap.size := hbx.lt
        have B2 : Hid (Below w.heap.size w w2) := hidIt (by rw [← hw2]; exact (B0.out.trans (B1.out.mono B0.out.size)).trans ((balloc _ _).mono (Nat.le_trans B0.out.size hs1)))
        obtain ⟨u0, u6, u7, u8⟩ := X1.out
        have I0 : Hid (LdI n0 w H S w2.heap.size w.heap.size b6 b7 b8 [] w2) := hidIt ⟨Nat.le_refl _, rfl, HV.out.below B2.out, LStep.of_below B2.out, by rw [← hw2]; exact u0.alloc _, by rw [← hw2]; exact u6.alloc _, by rw [← hw2]; exact u7.alloc _, by rw [← hw2]; exact u8.alloc _⟩
        rw [hw2] at HO2 ⊢
        clear hw2 u0 u6 u7 u8 x0 x6 x7 x8 y0 y6 y7 y8 z6 z7 z8
        generalize hL : zs.length = ln at *
        refine wpIn_rangeFunc_ownH hro h1 (gf := 42) (lb := #[.pointer (some ⟨w1.heap.size, 0, none⟩)]) rfl trivial (enters_of Try.func42 (by kernel_rfl) rfl)
          (back_stops Fence.wide (m - 1) trivial rfl (by omega) w1.heap.size w'.heap.size (.slice ao ln cap) zs' (by omega) (fun b => b = w1.heap.size ∨ (Value.slice ao ln cap).ownBlock = some b) (.inl rfl) (fun b e => .inr e) w2 hz2 hbx.cell HO2.out)
          (fun h k => h.trans k) (fun W l o o' hl ho _ _ b hb => (grownBy_putObj' W l o').block b (by have := (Array.getElem?_eq_some_iff.1 ho).1; rcases hb with rfl | e; omega; have := (hao b e).2; omega) (fun e => by cases e; rcases hb with rfl | e; omega; have := (hao _ e).2; omega))
          (Below.refl _ _) (fun _ => rfl) (LdI n0 w H S w2.heap.size w.heap.size b6 b7 b8) (LdX n0 w H S b6 b7 b8) (ldI_own hH.out B2.out.size (by omega) (by omega) (by omega) (by omega)) (fun c => ldX_own hH.out B2.out.size (by omega) (by omega) (by omega) c) I0.out
          (LdA S w2.heap.size (fun pB iv gv => #[.pointer (some ⟨H.hb, 0, none⟩), .int .i64 (i : Int), .string nm, .pointer (some ⟨w.heap.size, 0, none⟩), undef, undef, .pointer (some ⟨b6, 0, none⟩), .pointer (some ⟨b7, 0, none⟩), .pointer (some ⟨b8, 0, none⟩), .slice ao ln cap, .int .i64 0, undef, pB, undef, undef, .pointer (some ⟨H.hb, 0, none⟩), .int .i64 (i : Int), .bool true, .bool false, .tuple #[.slice ao ln cap, .int .i64 0], .pointer (some ⟨H.hb, 0, none⟩), .int .i64 (i : Int), .string nm, .tuple #[.slice ao ln cap, .int .i64 0], .slice ao ln cap, .int .i64 0, .int .i64 0, .bool false, undef, .slice ao ln cap, .func (.func 42) #[] #[.pointer (some ⟨w1.heap.size, 0, none⟩)], iv, gv, undef, undef, undef, undef, undef, undef, undef, undef, undef, undef, undef, undef, undef, undef, undef, undef, undef, undef, undef, undef]))
          (ldA_own w2.heap.size _) ?assign ?body ?done ?stop
        case assign =>
          rintro l pre x W K ⟨hzz, g0, hv, hs, x0, x6, x7, x8⟩ hK
          have bb := hidIt (balloc W (.cells #[.string x.2.1.nm, .int .i64 (x.2.1.fi : Int), .int .i64 (x.2.1.dn : Int)] 75))
          have FIN := hidIt (hK · (W.alloc (.cells #[.string x.2.1.nm, .int .i64 (x.2.1.fi : Int), .int .i64 (x.2.1.dn : Int)] 75)) ((KeepsOthers.alloc _ _).from _) (fun b hb => bb.out.block b (by rcases hb with rfl | e; omega; have := (hao b e).2; omega))
            ⟨by have := bb.out.size; omega, g0, (hv.past hs hH.out (fun b hb => bb.out.block b (by have := hs.size; omega)) bb.out.os bb.out.tape bb.out.output bb.out.size).1, (hv.past hs hH.out (fun b hb => bb.out.block b (by have := hs.size; omega)) bb.out.os bb.out.tape bb.out.output bb.out.size).2, x0.alloc _, x6.alloc _, x7.alloc _, x8.alloc _⟩ ⟨W.heap.size, hzz, Blk.new _ _ _, ·⟩)
          clear hK bb x0 x6 x7 x8 hv hs
          simp only [encB, List.zip_toArray, List.zip_cons_cons, List.zip_nil_right, List.foldl_toArray, List.foldl_cons, List.foldl_nil]
          gi_wp2
          exact FIN.out _ rfl
        case body =>
          rintro l pre x a' W hl ⟨rr, hrr⟩ ⟨hzz, g0, hv, hs, x0, x6, x7, x8⟩ ⟨Bx, hBx, bx, rfl⟩ hlt
          have hlW := (Array.getElem?_eq_some_iff.1 hrr).1
          have GG := hidIt (grant_good hv (x.2.2.ext (Ext.grants _ _)))
          have hsn := grants_snoc x.2.1 (pre.map fun x => x.2.1) S g0
          have hmap : ((pre ++ [x]).map fun x => x.2.1) = (pre.map fun x => x.2.1) ++ [x.2.1] := by simp
          rw [← hsn, ← hmap] at GG
          have y0 := x0.cell
          have c0 := bx.cell 0
          have c1 := bx.cell 1
          have c2 := bx.cell 2
          simp only [List.getElem?_toArray, List.getElem?_cons_zero, List.getElem?_cons_succ] at c0 c1 c2
          have KB : Hid (∀ w3, LStep H H W w3 → (∀ b, w.heap.size ≤ b → b < W.heap.size → w3.heap[b]? = W.heap[b]?)) := hidIt fun w3 h b hb1 hb2 => h.block b hb2 fun e => by have := hH.out b e; omega
          have KF : Hid (∀ w3, LStep H H W w3 → KeepsFrom w2.heap.size W w3) := hidIt fun w3 h => ⟨h.size, fun k o hk ho hc => by
            have hkl := (Array.getElem?_eq_some_iff.1 ho).1
            have := B2.out.size
            exact (KB.out w3 h k (by omega) hkl).trans ho⟩
          have KP : Hid (∀ w3, LStep H H W w3 → KpB (fun b => b = w1.heap.size ∨ (Value.slice ao ln cap).ownBlock = some b) W w3) := hidIt fun w3 h b hb => KB.out w3 h b (by rcases hb with rfl | e; omega; have := (hao b e).1; omega) (by rcases hb with rfl | e; omega; have := (hao b e).2; omega)
          have X3 : Hid (∀ w3, LStep H H W w3 → Boxed w3 w.heap.size 22 (.pointer (some ⟨H.hb, 0, none⟩)) ∧ Boxed w3 b6 3 (.int .i64 0) ∧ Boxed w3 b7 3 (.int .i64 0) ∧ Boxed w3 b8 24 (.int .i64 0)) := hidIt fun w3 h =>
            ⟨(KB.out w3 h _ (Nat.le_refl _) x0.lt).trans x0, (KB.out w3 h b6 (by omega) x6.lt).trans x6, (KB.out w3 h b7 (by omega) x7.lt).trans x7, (KB.out w3 h b8 (by omega) x8.lt).trans x8⟩
          have HS := hidIt hs
          clear hs hsn hmap bx hv x0 x6 x7 x8 hao
          obtain ⟨gr, hgr⟩ : ∃ gr, grants ((pre ++ [x]).map fun x => x.2.1) S = gr := ⟨_, rfl⟩
          have HG := hidIt hgr
          rw [hgr] at GG
          clear hgr
          by_cases he : gr.2 = 0
          · rw [he] at GG
            gi_wp2_with (refine ⟨trivial, fun _ => by omega, ?_⟩; gi_at_call 30; refine (CallsIn.inRound l (callsIn_wide.2 GG.out)).mono ?_; rintro e w3 ⟨rfl, hv3, hs3⟩; have HV3 := hidIt hv3; have HS3 := hidIt hs3; clear hv3 hs3)
            obtain ⟨p0, p6, p7, p8⟩ := X3.out w3 HS3.out
            exact ⟨KF.out w3 HS3.out, KP.out w3 HS3.out, by have := HS3.out.size; omega, by rw [HG.out]; exact he, by rw [HG.out]; exact HV3.out, HS.out.trans HS3.out, p0, p6, p7, p8⟩
          · have he' : (gr.2 != 0) = true := by simp [he]
            gi_wp2_with (refine ⟨trivial, fun _ => by omega, ?_⟩; gi_at_call 30; refine (CallsIn.inRound l (callsIn_wide.2 GG.out)).mono ?_; rintro e w3 ⟨rfl, hv3, hs3⟩; have HV3 := hidIt hv3; have HS3 := hidIt hs3; have P := X3.out w3 hs3; obtain ⟨-, p6, p7, p8⟩ := P; have y6 := p6.cell; have z6 := p6.frozen; have y7 := p7.cell; have z7 := p7.frozen; have y8 := p8.cell; have z8 := p8.frozen; have P6 := hidIt p6; have P7 := hidIt p7; have P8 := hidIt p8; clear hv3 hs3 p6 p7 p8)
            obtain ⟨s6, s7, s8, so⟩ := stores3 P6.out P7.out P8.out q2 q3 (.int .i64 0) (.int .i64 0) (.int .i64 gr.2)
            obtain ⟨e1, e2⟩ := HV3.out.past (HS.out.trans HS3.out) hH.out (fun b hb => so b (by omega) (by omega) (by omega)) rfl rfl rfl (by simp)
            exact ⟨(KF.out w3 HS3.out).trans ((((KeepsOthers.setCell _ _ _).trans (KeepsOthers.setCell _ _ _)).trans (KeepsOthers.setCell _ _ _)).from _), rfl, by rw [HG.out]; exact he, by rw [HG.out]; exact e1, e2, s6, s7, by rw [HG.out]; exact s8⟩
        case done =>
          rintro D ys W hD rfl ⟨hzz, g0, hv, hs, x0, x6, x7, x8⟩ hKd
          have hsnd : (comeB zs' zs'.length).map (fun x => x.2.1) = zs.reverse := by
            have := congrArg (List.map Subtype.val) (comeB_snd zs' zs'.length (Nat.le_refl _))
            rw [List.map_map, List.map_take, List.map_reverse, hzs] at this
            rw [List.take_of_length_le (by rw [List.length_reverse]; omega)] at this
            exact this
          rw [hsnd] at g0 hv
          rw [if_pos g0] at hr
          cases hr
          have hext := Ext.grants zs.reverse S
          have hSl := hext.len
          generalize (grants zs.reverse S).1 = S2 at *
          obtain ⟨x2, hx2⟩ : ∃ x2, S2.each[i]? = some x2 := ⟨_, List.getElem?_eq_getElem (by omega)⟩
          obtain ⟨g, cap2, ev, hc, hg, k0, k1, k2, m1, m2⟩ := hv.row hx2
          have c0 := hv.c0
          rw [ev] at c0
          have hld : S2.ldN i nm = alook x2.ld nm := by unfold Ls.ldN; rw [hx2]
          have hlk := m2.look Try.underlying62 Try.underlying9 (zero_cls W) nm
          have hv2 : ((alook x2.ld nm).map clsV).getD (.agg #[.int .i64 0, .int .i64 0]) = .agg #[.int .i64 ((S2.ldN i nm).getD (0, 0)).1, .int .i64 ((S2.ldN i nm).getD (0, 0)).2] := by
            rw [hld]
            cases alook x2.ld nm <;> rfl
          rw [slook_map, hv2] at hlk
          generalize ((S2.ldN i nm).getD (0, 0)).1 = d1 at *
          generalize ((S2.ldN i nm).getD (0, 0)).2 = d2 at *
          have y0 := x0.cell
          have y6 := x6.cell
          have z6 := x6.frozen
          have y7 := x7.cell
          have z7 := x7.frozen
          have y8 := x8.cell
          have z8 := x8.frozen
          have hi2 : (i : Int) < (S2.each.length : Int) := by omega
          have X6 := hidIt x6
          have X7 := hidIt x7
          have X8 := hidIt x8
          have HV2 := hidIt hv
          have HS2 := hidIt hs
          clear x0 x6 x7 x8 hv hs m1 m2 k0 k1
          clear y6 z6 y7 z7 y8 z8
          gi_wp2
          have hbn : Blk (W.alloc (.cells #[.int .i64 d1, .int .i64 d2] 78)) W.heap.size #[.int .i64 d1, .int .i64 d2] 78 := Blk.new _ _ _
          have XX := hidIt (And.intro hbn (And.intro (X6.out.alloc (.cells #[.int .i64 d1, .int .i64 d2] 78)) (And.intro (X7.out.alloc (.cells #[.int .i64 d1, .int .i64 d2] 78)) (X8.out.alloc (.cells #[.int .i64 d1, .int .i64 d2] 78)))))
          have XB := hidIt (balloc W (.cells #[.int .i64 d1, .int .i64 d2] 78))
          have hKx : (W.alloc (.cells #[.int .i64 d1, .int .i64 d2] 78)).heap[D]? = some (.deferred (some [])) := (XB.out.block D (Array.getElem?_eq_some_iff.1 hKd).1).trans hKd
          clear hbn hlk c0 k2 y0
          generalize W.alloc (.cells #[.int .i64 d1, .int .i64 d2] 78) = X at *
          obtain ⟨hbn, x6, x7, x8⟩ := XX.out
          have c1 := hbn.cell 0
          have c2 := hbn.cell 1
          simp only [List.getElem?_toArray, List.getElem?_cons_zero, List.getElem?_cons_succ] at c1 c2
          have y6 := x6.cell
          have z6 := x6.frozen
          have y7 := x7.cell
          have z7 := x7.frozen
          have y8 := x8.cell
          have z8 := x8.frozen
          clear hbn x6 x7 x8
          gi_region
          all_goals
            gi_wp2
            obtain ⟨-, x6, x7, x8⟩ := XX.out
            obtain ⟨s6, s7, s8, so⟩ := stores3 x6 x7 x8 q2 q3 (.int .i64 d1) (.int .i64 d2) (.int .i64 0)
            have hD2 := B2.out.size
            have hKy : ((((X.setCell ⟨b6, 0, none⟩ (.int .i64 d1)).setCell ⟨b7, 0, none⟩ (.int .i64 d2)).setCell ⟨b8, 0, none⟩ (.int .i64 0)).drew).heap[D]? = some (.deferred (some [])) := (so D (by omega) (by omega) (by omega)).trans hKx
            have hsz : X.heap.size ≤ (((X.setCell ⟨b6, 0, none⟩ (.int .i64 d1)).setCell ⟨b7, 0, none⟩ (.int .i64 d2)).setCell ⟨b8, 0, none⟩ (.int .i64 0)).drew.heap.size := by simp
            have hoo : ∀ b, b < w.heap.size → (((X.setCell ⟨b6, 0, none⟩ (.int .i64 d1)).setCell ⟨b7, 0, none⟩ (.int .i64 d2)).setCell ⟨b8, 0, none⟩ (.int .i64 0)).drew.heap[b]? = X.heap[b]? := fun b hb => so b (by omega) (by omega) (by omega)
            have t6 : Boxed (((X.setCell ⟨b6, 0, none⟩ (.int .i64 d1)).setCell ⟨b7, 0, none⟩ (.int .i64 d2)).setCell ⟨b8, 0, none⟩ (.int .i64 0)).drew b6 3 (.int .i64 d1) := s6
            have t7 : Boxed (((X.setCell ⟨b6, 0, none⟩ (.int .i64 d1)).setCell ⟨b7, 0, none⟩ (.int .i64 d2)).setCell ⟨b8, 0, none⟩ (.int .i64 0)).drew b7 3 (.int .i64 d2) := s7
            have t8 : Boxed (((X.setCell ⟨b6, 0, none⟩ (.int .i64 d1)).setCell ⟨b7, 0, none⟩ (.int .i64 d2)).setCell ⟨b8, 0, none⟩ (.int .i64 0)).drew b8 24 (.int .i64 0) := s8
            obtain ⟨e1, e2⟩ := HV2.out.past HS2.out hH.out (W' := (((X.setCell ⟨b6, 0, none⟩ (.int .i64 d1)).setCell ⟨b7, 0, none⟩ (.int .i64 d2)).setCell ⟨b8, 0, none⟩ (.int .i64 0)).drew) (fun b hb => (hoo b hb).trans (XB.out.block b (by have := HS2.out.size; omega))) XB.out.os XB.out.tape XB.out.output (Nat.le_trans XB.out.size hsz)
            clear so s6 s7 s8 hoo
            generalize (((X.setCell ⟨b6, 0, none⟩ (.int .i64 d1)).setCell ⟨b7, 0, none⟩ (.int .i64 d2)).setCell ⟨b8, 0, none⟩ (.int .i64 0)).drew = Y at *
            refine ⟨by simp, .inl ⟨_, _, rfl, run_takeDeferred hKy, ?_⟩⟩
            have ho : ∀ b, b ≠ D → (Y.putObj D (.deferred none)).heap[b]? = Y.heap[b]? := fun b hb => by
              unfold World.putObj
              simp [Ne.symm hb]
            have k6 : Boxed (Y.putObj D (.deferred none)) b6 3 (.int .i64 d1) := (ho b6 (by omega)).trans t6
            have k7 : Boxed (Y.putObj D (.deferred none)) b7 3 (.int .i64 d2) := (ho b7 (by omega)).trans t7
            have k8 : Boxed (Y.putObj D (.deferred none)) b8 24 (.int .i64 0) := (ho b8 (by omega)).trans t8
            refine ⟨_, load_res _ _ rfl rfl rfl k6.cell k7.cell k8.cell, rfl, ?_⟩
            exact e1.past e2 hH.out (fun b hb => ho b (by omega)) rfl rfl rfl (by simp [World.putObj])
        case stop =>
          rintro D c pre W hD ⟨k, hk, rfl⟩ ⟨rfl, g0, hv, hs, x6, x7, x8⟩ hKd
          have hsnd : (comeB zs' k).map (fun x => x.2.1) = zs.reverse.take k := by
            have := congrArg (List.map Subtype.val) (comeB_snd zs' k hk)
            rw [List.map_map, List.map_take, List.map_reverse, hzs] at this
            exact this
          rw [hsnd] at g0 hv x8
          have hge := grants_err (zs.reverse.drop k) (zs.reverse.take k) S g0
          rw [List.take_append_drop] at hge
          rw [hge, if_neg g0] at hr
          cases hr
          gi_wp2
          refine ⟨by simp, .inl ⟨_, _, rfl, run_takeDeferred hKd, ?_⟩⟩
          have hD2 := B2.out.size
          have ho : ∀ b, b ≠ D → (W.putObj D (.deferred none)).heap[b]? = W.heap[b]? := fun b hb => by
            unfold World.putObj
            simp [Ne.symm hb]
          have k6 : Boxed (W.putObj D (.deferred none)) b6 3 (.int .i64 0) := (ho b6 (by omega)).trans x6
          have k7 : Boxed (W.putObj D (.deferred none)) b7 3 (.int .i64 0) := (ho b7 (by omega)).trans x7
          have k8 : Boxed (W.putObj D (.deferred none)) b8 24 (.int .i64 (grants (zs.reverse.take k) S).2) := (ho b8 (by omega)).trans x8
          refine ⟨_, load_res _ _ rfl rfl rfl k6.cell k7.cell k8.cell, rfl, ?_⟩
          exact hv.past hs hH.out (fun b hb => ho b (by omega)) rfl rfl rfl (by simp [World.putObj])
      · rw [if_neg he] at hr
        cases hr
        have he' : (er != 0) = true := by simp [he]
        gi_wp2_with (refine ⟨trivial, ?_⟩; gi_at_call 28; refine (callsIn_wide.2 GW.out).mono ?_; rintro e w1 ⟨v, rfl, ho, hb1⟩; have B1 := hidIt hb1; have x6' := hidIt (show Boxed w1 b6 _ _ from (hb1.block _ x6.lt).trans x6); have x7' := hidIt (show Boxed w1 b7 _ _ from (hb1.block _ x7.lt).trans x7); have x8' := hidIt (show Boxed w1 b8 _ _ from (hb1.block _ x8.lt).trans x8); have y6' := x6'.out.cell; have z6' := x6'.out.frozen; have y7' := x7'.out.cell; have z7' := x7'.out.frozen; have y8' := x8'.out.cell; have z8' := x8'.out.frozen; clear ho hb1)
        obtain ⟨p6, p7, p8, po⟩ := stores3 x6'.out x7'.out x8'.out q2 q3 (.int .i64 0) (.int .i64 0) (.int .i64 er)
        refine ⟨_, load_res _ _ rfl rfl rfl p6.cell p7.cell p8.cell, rfl, ?_⟩
        have bb := B0.out.trans (B1.out.mono B0.out.size)
        exact (HV.out.below bb).past (LStep.of_below bb) hH.out (fun b hb => po b (by omega) (by omega) (by omega)) rfl rfl rfl (by simp)
theorem Load_any (h : LoV n0 w H S) (n : Int) (nm : ByteArray) {r : Ls × Int × Int × Int} (hr : S.loadR n nm = some r) : Calls Try.prog 12 #[H.ptr, .int .i64 n, .string nm] w fun e w' => e = .returned (.tuple #[.int .i64 r.2.1, .int .i64 r.2.2.1, .int .i64 r.2.2.2]) ∧ AddQ n0 w H r.1 w' :=
  (callsIn_wide.1 (Load_in h n nm hr 6 (Nat.le_refl _))).mono fun e w' ⟨a, b, c⟩ => ⟨a, H, b, c⟩
end Go.Proofs.Ytacmooknfbjpeaa.J
