/- nearest: the first one of a line that has what is asked for. -/
import Derived.Test.YtknppdpcgdncdaaKP
namespace Go.Proofs.Ytknppdpcgdncdaa.K
open Go.RowKit Go.Shelf Q Q.D
attribute [local go_sem] Oper.semAt_some

def near (q : Mem → Int) : List Mem → Option Mem
  | [] => none
  | m :: l => if 0 ≤ q m then some m else near q l
def nearN (q : Mem → Int) (l : List Mem) : Int := match near q l with | some m => q m | none => -1
theorem near_none {q : Mem → Int} : ∀ {l : List Mem}, (∀ y ∈ l, q y < 0) → near q l = none
  | [], _ => rfl
  | m :: l, h => by
    unfold near
    rw [if_neg (by have := h m (by simp); omega)]
    exact near_none (fun y hy => h y (by simp [hy]))
theorem near_at {q : Mem → Int} : ∀ {pre rest : List Mem} {x : Mem}, (∀ y ∈ pre, q y < 0) → 0 ≤ q x → near q (pre ++ x :: rest) = some x
  | [], _, _, _, h => by simp [near, h]
  | m :: l, rest, x, h, h' => by
    have := h m (by simp)
    rw [List.cons_append]
    unfold near
    rw [if_neg (by omega)]
    exact near_at (fun y hy => h y (by simp [hy])) h'

theorem keeps_below {W W' : World} (h : Below W.heap.size W W') : KeepsOthers W W' := ⟨h.size, fun k _ hk _ => (h.block k (Array.getElem?_eq_some_iff.1 hk).1).trans hk⟩
theorem Boxed.own {X Y : World} {row : Option Nat} {B : Nat} {t : TypeId} {v : Value} (h : Boxed X B t v) (hg : X.grownBy Y row) (hrow : ∀ r, row = some r → ∃ o : Obj, X.heap[r]? = some o ∧ o.isCells = false) : Boxed Y B t v :=
  h.kept hg (fun e => by obtain ⟨o, ho, hc⟩ := hrow B e.symm; rw [show X.heap[B]? = _ from h] at ho; cases ho; cases hc)
theorem Boxed.below {X Y : World} {B : Nat} {t : TypeId} {v : Value} (h : Boxed X B t v) (hb : Below X.heap.size X Y) : Boxed Y B t v := (hb.block _ h.lt).trans h
def nearI (w W2 : World) (g : Nat) (nm ds : ByteArray) (q : Mem → Int) (pre : List Mem) (W : World) : Prop :=
  ((∀ y ∈ pre, q y < 0) ∧ (Boxed W w.heap.size 67 (.func (.func g) #[] #[]) ∧ Boxed W (w.heap.size + 1) 9 (.string nm) ∧ Boxed W (w.heap.size + 1 + 1) 9 (.string ds)) ∧
    Boxed W (w.heap.size + 1 + 1 + 1) 64 (.pointer none) ∧ Boxed W (w.heap.size + 1 + 1 + 1 + 1) 3 (.int .i64 0)) ∧ Below W2.heap.size W2 W
def nearX (w : World) (q : Mem → Int) (xs : List Mem) (_ : List Mem) (W : World) : Prop :=
  (∃ x, near q xs = some x ∧ W.cell? ⟨w.heap.size + 1 + 1 + 1, 0, none⟩ = some (enc x) ∧ W.cell? ⟨w.heap.size + 1 + 1 + 1 + 1, 0, none⟩ = some (.int .i64 (q x))) ∧ Below w.heap.size w W

def nearW (w : World) (g : Nat) (nm ds : ByteArray) : World :=
  ((((w.alloc (.cells #[.func (.func g) #[] #[]] 67)).alloc (.cells #[.string nm] 9)).alloc (.cells #[.string ds] 9)).alloc (.cells #[.pointer none] 64)).alloc (.cells #[.int .i64 0] 3)

set_option maxRecDepth 100000 in
set_option maxHeartbeats 4000000 in
theorem nearest_any (g : Nat) (eg : ∀ args w, (callFunc g args).run Try.prog w = .ok (.enter g args) w) (q : Mem → Int) (nm ds : ByteArray) (w : World) (p : Option Mem) (xs : List Mem) (hch : Chain w p xs)
    (hq : ∀ W m ab, MemIn W m ab → Calls Try.prog g #[.pointer (some ⟨m.b, 0, none⟩), .string nm, .string ds] W fun e w' => e = .returned (.int .i64 (q m)) ∧ Below W.heap.size W w') :
    Calls Try.prog 32 #[ptr p, .func (.func g) #[] #[], .string nm, .string ds] w fun e w' => e = .returned (.tuple #[ptr (near q xs), .int .i64 (nearN q xs)]) ∧ Below w.heap.size w w' := by
  refine (callsIn_wide (n := 5)).1 ?_
  have B2 : Below w.heap.size w (nearW w g nm ds) := (((((Below.refl _ w).alloc (Nat.le_refl _) _).alloc (by simp) _).alloc (by simp; omega) _).alloc (by simp; omega) _).alloc (by simp; omega) _
  have hsz : (nearW w g nm ds).heap.size = w.heap.size + 1 + 1 + 1 + 1 + 1 := by unfold nearW; simp
  have start : nearI w (nearW w g nm ds) g nm ds q [] (nearW w g nm ds) := by
    have a1 := Boxed.new w 67 (.func (.func g) #[] #[])
    have a2 := Boxed.new (w.alloc (.cells #[.func (.func g) #[] #[]] 67)) 9 (.string nm)
    have a3 := Boxed.new ((w.alloc (.cells #[.func (.func g) #[] #[]] 67)).alloc (.cells #[.string nm] 9)) 9 (.string ds)
    have a4 := Boxed.new (((w.alloc (.cells #[.func (.func g) #[] #[]] 67)).alloc (.cells #[.string nm] 9)).alloc (.cells #[.string ds] 9)) 64 (.pointer none)
    have a5 := Boxed.new ((((w.alloc (.cells #[.func (.func g) #[] #[]] 67)).alloc (.cells #[.string nm] 9)).alloc (.cells #[.string ds] 9)).alloc (.cells #[.pointer none] 64)) 3 (.int .i64 0)
    simp only [World.size_alloc] at a2 a3 a4 a5
    exact ⟨⟨by simp, ⟨(((a1.alloc _).alloc _).alloc _).alloc _, ((a2.alloc _).alloc _).alloc _, (a3.alloc _).alloc _⟩, a4.alloc _, a5⟩, Below.refl _ _⟩
  refine callsIn_of_wp_marks Try.func32 rfl trivial ?_ rfl
  simp only [Try.ntmps32, List.size_toArray, List.length_cons, List.length_nil, Nat.reduceAdd, Nat.reduceSub, Array.replicate_succ, Array.replicate_zero, List.push_toArray, List.append_toArray, List.nil_append, List.cons_append]
  gi_wp2
  have hch2 := hch.ext (ext_below B2)
  change Code.wpIn _ _ _ _ _ _ (nearW w g nm ds)
  generalize nearW w g nm ds = W2 at *
  refine wpIn_rangeRecv (α := Mem) (n := 5) rfl (enters_of Try.func45 (by kernel_rfl) rfl) enc xs (fun W => Below W2.heap.size W2 W) rfl (line_any 4 W2 p xs hch2)
    (nearI w W2 g nm ds q) (nearX w q xs)
    (OwnFrom.and (Own.from (fun s A B row hs hg hr => ⟨hs.1, ⟨Boxed.own hs.2.1.1 hg hr, Boxed.own hs.2.1.2.1 hg hr, Boxed.own hs.2.1.2.2 hg hr⟩, Boxed.own hs.2.2.1 hg hr, Boxed.own hs.2.2.2 hg hr⟩) _) (own_below (Nat.le_refl _)))
    (OwnFrom.and (Own.from (fun s A B row hs hg hr => by obtain ⟨x, h1, h2, h3⟩ := hs; exact ⟨x, h1, cell_kept h2 hg hr, cell_kept h3 hg hr⟩) _) (own_below (by omega)))
    (fun _ _ h => h.2) start
    (fun x => { tmps := #[ptr p, .func (.func g) #[] #[], .string nm, .string ds, undef, .pointer (some ⟨w.heap.size, 0, none⟩), .pointer (some ⟨w.heap.size + 1, 0, none⟩), .pointer (some ⟨w.heap.size + 1 + 1, 0, none⟩), .pointer (some ⟨w.heap.size + 1 + 1 + 1, 0, none⟩), .pointer (some ⟨w.heap.size + 1 + 1 + 1 + 1, 0, none⟩), .pointer (some ⟨x.b, 0, none⟩), undef, ptr p, .func (.func 45) #[ptr p] #[], .pointer (some ⟨x.b, 0, none⟩), undef, undef, undef, undef, undef, undef, undef, undef, undef], defers := [] })
    ?assign ?body ?done ?stop
  case assign =>
    intro l x W K hK
    unfold enc
    gi_wp2
    exact hK
  case body =>
    rintro l pre x rest W hx ⟨⟨hpre, ⟨b1, b2, b3⟩, b4, b5⟩, hB⟩
    obtain ⟨ab, hm⟩ := (hch2.ext (ext_below hB)).at x (by rw [hx]; simp)
    have hcall := D.hidIt (hq W x ab hm)
    have HX := D.hidIt hx
    clear hm hx
    have hsW := hB.size
    have e1 : w.heap.size + 1 + 1 + 1 ≠ w.heap.size + 1 + 1 + 1 + 1 := by omega
    have d1 := b1.cell
    have d2 := b2.cell
    have d3 := b3.cell
    by_cases h0 : 0 ≤ q x
    · gi_wp2_with fail
      refine ⟨trivial, (CallsIn.inRound l (callsIn_wide.2 hcall.out)).mono ?_⟩
      rintro e w' ⟨rfl, hb'⟩
      have B4 := Boxed.below b4 hb'
      have B5 := Boxed.below b5 hb'
      have c4 := B4.cell
      have f4 := B4.frozen
      have c5 := B5.cell
      have f5 := B5.frozen
      have s1 := B4.set (enc x)
      have s2 := (B5.other (by omega) (enc x) : Boxed (w'.setCell ⟨w.heap.size + 1 + 1 + 1, 0, none⟩ (enc x)) (w.heap.size + 1 + 1 + 1 + 1) 3 (.int .i64 0))
      have s3 := s2.set (.int .i64 (q x))
      have s4 := (s1.other (by omega) (.int .i64 (q x)) : Boxed ((w'.setCell ⟨w.heap.size + 1 + 1 + 1, 0, none⟩ (enc x)).setCell ⟨w.heap.size + 1 + 1 + 1 + 1, 0, none⟩ (.int .i64 (q x))) (w.heap.size + 1 + 1 + 1) 64 (enc x))
      have fin : ∀ a', roundEnd (nearI w W2 g nm ds q) (nearX w q xs) (pre ++ [x]) W .ret a' ((w'.setCell ⟨w.heap.size + 1 + 1 + 1, 0, none⟩ (enc x)).setCell ⟨w.heap.size + 1 + 1 + 1 + 1, 0, none⟩ (.int .i64 (q x))) := fun a' =>
        ⟨((keeps_below hb').trans (KeepsOthers.setCell _ _ _)).trans (KeepsOthers.setCell _ _ _), ⟨x, by rw [HX.out]; exact near_at hpre h0, s4.cell, s3.cell⟩,
          (((B2.trans (hB.mono (by omega))).trans (hb'.mono (by omega))).setCell (p := ⟨w.heap.size + 1 + 1 + 1, 0, none⟩) (by simp; omega) _).setCell (p := ⟨w.heap.size + 1 + 1 + 1 + 1, 0, none⟩) (by simp; omega) _⟩
      have t2 := s2.cell
      have t3 := s2.frozen
      unfold enc at t2 t3 fin
      clear s1 s2 s3 s4 B4 B5
      gi_wp2
      exact fin _
    · gi_wp2_with fail
      refine ⟨trivial, (CallsIn.inRound l (callsIn_wide.2 hcall.out)).mono ?_⟩
      rintro e w' ⟨rfl, hb'⟩
      gi_wp2
      exact ⟨keeps_below hb', ⟨fun y hy => (List.mem_append.1 hy).elim (hpre y) (fun e => by simp at e; subst e; omega), ⟨Boxed.below b1 hb', Boxed.below b2 hb', Boxed.below b3 hb'⟩, Boxed.below b4 hb', Boxed.below b5 hb'⟩, hB.trans (hb'.mono hsW)⟩
  case done =>
    rintro D W hD ⟨⟨hpre, ⟨b1, b2, b3⟩, b4, b5⟩, hB⟩ hK
    have e1 : w.heap.size + 1 + 1 + 1 ≠ w.heap.size + 1 + 1 + 1 + 1 := by omega
    have c4 := b4.cell
    have f4 := b4.frozen
    have s1 := b4.set (.pointer none)
    have s2 := (b5.other (by omega) (.pointer none) : Boxed (W.setCell ⟨w.heap.size + 1 + 1 + 1, 0, none⟩ (.pointer none)) (w.heap.size + 1 + 1 + 1 + 1) 3 (.int .i64 0))
    have s3 := s2.set (.int .i64 (-1))
    have s4 := (s1.other (by omega) (.int .i64 (-1)) : Boxed ((W.setCell ⟨w.heap.size + 1 + 1 + 1, 0, none⟩ (.pointer none)).setCell ⟨w.heap.size + 1 + 1 + 1 + 1, 0, none⟩ (.int .i64 (-1))) (w.heap.size + 1 + 1 + 1) 64 (.pointer none))
    have t2 := s2.cell
    have t3 := s2.frozen
    have hK' : ((W.setCell ⟨w.heap.size + 1 + 1 + 1, 0, none⟩ (.pointer none)).setCell ⟨w.heap.size + 1 + 1 + 1 + 1, 0, none⟩ (.int .i64 (-1))).heap[D]? = some (.deferred (some [])) := ((KeepsOthers.setCell W _ _).trans (KeepsOthers.setCell _ _ _)).same D _ hK rfl
    have hB' : Below w.heap.size w ((W.setCell ⟨w.heap.size + 1 + 1 + 1, 0, none⟩ (.pointer none)).setCell ⟨w.heap.size + 1 + 1 + 1 + 1, 0, none⟩ (.int .i64 (-1))) := ((B2.trans (hB.mono (by omega))).setCell (p := ⟨w.heap.size + 1 + 1 + 1, 0, none⟩) (by simp; omega) _).setCell (p := ⟨w.heap.size + 1 + 1 + 1 + 1, 0, none⟩) (by simp; omega) _
    have q1 := s4.cell
    have q2 := s3.cell
    clear s1 s2 s3 s4
    gi_wp2
    generalize (W.setCell ⟨w.heap.size + 1 + 1 + 1, 0, none⟩ (.pointer none)).setCell ⟨w.heap.size + 1 + 1 + 1 + 1, 0, none⟩ (.int .i64 (-1)) = W5 at *
    refine ⟨by simp, .inl ⟨_, _, rfl, run_takeDeferred hK', ?_⟩⟩
    have hc5 := cell_kept q1 (grownBy_putObj' _ D (.deferred none)) (fun r e => by cases e; exact ⟨_, hK', rfl⟩)
    have hc6 := cell_kept q2 (grownBy_putObj' _ D (.deferred none)) (fun r e => by cases e; exact ⟨_, hK', rfl⟩)
    refine ⟨.tuple #[.pointer none, .int .i64 (-1)], ?_, ?_, hB'.trans (belowK_b (w := w) (Nat.le_refl _) W5 D _ _ (by omega) hK' rfl rfl)⟩
    · simp [results, Try.f32, go_sem, hc5, hc6]
    · unfold nearN; rw [near_none hpre]; rfl
  case stop =>
    rintro D pre W hD ⟨⟨x, hx, hc1, hc2⟩, hB⟩ hK
    gi_wp2
    refine ⟨by simp, .inl ⟨_, _, rfl, run_takeDeferred hK, ?_⟩⟩
    have hc5 := cell_kept hc1 (grownBy_putObj' _ D (.deferred none)) (fun r e => by cases e; exact ⟨_, hK, rfl⟩)
    have hc6 := cell_kept hc2 (grownBy_putObj' _ D (.deferred none)) (fun r e => by cases e; exact ⟨_, hK, rfl⟩)
    refine ⟨.tuple #[enc x, .int .i64 (q x)], ?_, ?_, hB.trans (belowK_b (w := w) (Nat.le_refl _) W D _ _ (by omega) hK rfl rfl)⟩
    · simp [results, Try.f32, go_sem, hc5, hc6]
    · unfold nearN; rw [hx]; rfl
end Go.Proofs.Ytknppdpcgdncdaa.K
