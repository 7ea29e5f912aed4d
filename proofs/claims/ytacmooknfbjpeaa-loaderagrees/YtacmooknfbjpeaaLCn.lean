/- add, New, Child, Offer: walked. -/
import Derived.Test.YtacmooknfbjpeaaLBn
import Derived.Test.YtacmooknfbjpeaaQDDG
namespace Go.Proofs.Ytacmooknfbjpeaa.J
open Go.RowKit Go.MapKept Go.ChangeMaps
set_option linter.unusedVariables false
variable {n0 : Nat} {w : World} {H : LB} {S : Ls}

/-- append(own row of structs, one literal struct). -/
theorem wpList_sapp {k sb T ST : Nat} {z : Value} (hI : (Try.prog.info? T).map (fun i => (i.zero, i.size, i.bytes)) = some (some z, k, sb)) (hzc : z.cells.size = k) (hk0 : 0 < k) (hsb : sb ≤ 1000) (hU : Try.prog.underlying ST = some (.slice T))
    {w : World} {ops : Array Oper} {rest : List Oper} {o : Oper} {a : Act} {Q : Exit → Act → World → Prop} (hgd : o.guard = none) (s x : Operand)
    (ho : o.op = .call { callee := .builtin .append, args := #[s, x], argTypes := #[ST, ST] })
    (row : List Value) (hrl : row.length = k) (h1 : ∀ u ∈ row, u.oneCell' = true)
    (B : Nat) (v : Value) (n : Nat) (xs : List Value) (hown : w.ownsRow B T k v n xs) (hs : a.eval s = v) {bb : Nat} (hx : a.eval x = .slice (some ⟨bb, 0, none⟩) 1 1) (hbb : bb = w.heap.size)
    (hlen : n ≤ 1000000) (hB : B ≤ w.heap.size)
    (h : ∀ ao' cap' w', w'.ownsRow B T k (.slice ao' (n + 1) cap') (n + 1) (xs ++ row) → Step v (w.alloc (.cells row.toArray T)) (.slice ao' (n + 1) cap') w' → wpList Try.prog ops Q rest (a.put o.dst (.slice ao' (n + 1) cap')) w') :
    wpList Try.prog ops Q (o :: rest) a (w.alloc (.cells row.toArray T)) := by
  subst hbb
  obtain ⟨i0, hi, hz0, hz1, hz2⟩ := info_parts hI
  refine wpList_plain hgd fun K hK => ?_
  have hown' : (w.alloc (.cells row.toArray T)).ownsRow B T k v n xs := own_below hown (balloc w _)
  have hmul : (n + 1) * sb ≤ 1000001 * 1000 := Nat.mul_le_mul (by omega) hsb
  obtain ⟨v', w', hr, h2, h3, _, h4⟩ := run_append_own_at (P := Try.prog) (w.alloc (.cells row.toArray T)) B ST o.type T i0 z k sb hU hi hz0 hz1 hz2 hzc hk0 v n xs hown' ⟨w.heap.size, 0, none⟩ 1 1 row (by omega)
    (fun j u hj => by
      have e : (⟨w.heap.size, 0, none⟩ : Addr).add j = ⟨w.heap.size, j, none⟩ := by unfold Addr.add; split <;> simp_all
      rw [e]
      have := (Blk.new w row.toArray T).cell j
      rw [this]
      simpa using hj) h1 (by unfold maxLen; omega) (by omega) (by simp; omega)
  unfold Oper.wp execOp
  simp only [ho, resolve, invoke, builtin, Sem.run_bind, Sem.run_pure, Result.andThen_ok, List.map_toArray, List.map_cons, List.map_nil, hs, hx, hr]
  obtain ⟨ao', cap', rfl⟩ := own_slice h2
  exact hK _ _ (h ao' cap' w' h2 ⟨h3, h4.imp id fun e => ⟨_, e, Nat.le_refl _⟩⟩)

/-- make(map..). -/
theorem wpList_mkmap {w : World} {ops : Array Oper} {rest : List Oper} {o : Oper} {a : Act} {Q : Exit → Act → World → Prop} {t : TypeId} (hgd : o.guard = none) (ho : o.op = .makeMap t none)
    (h : wpList Try.prog ops Q rest (a.put o.dst (.map (some w.heap.size))) (w.alloc (.map #[] 0))) : wpList Try.prog ops Q (o :: rest) a w := by
  refine wpList_plain hgd fun K hK => ?_
  unfold Oper.wp execOp
  simp only [ho, Sem.run_bind, Sem.run_pure]
  exact hK _ _ h
def Ls.add (S : Ls) (p : Int) : Ls := ⟨S.each ++ [⟨p, [], []⟩], S.ps⟩
def LB.add (H : LB) (b : Nat) (v : Value) : LB := { H with ev := v, nm := H.nm + 2, mb := fun k => if k = H.nm then b else if k = H.nm + 1 then b + 1 else H.mb k }
theorem LB.add_old (H : LB) (b : Nat) (v : Value) {k : Nat} (hk : k < H.nm) : (H.add b v).mb k = H.mb k := by
  simp only [LB.add]
  rw [if_neg (by omega), if_neg (by omega)]
theorem eachC_mb {mb mb' : Nat → Nat} : ∀ (l : List Ln) (q : Nat), (∀ k, 2 * q < k → k ≤ 2 * (q + l.length) → mb' k = mb k) → eachC mb' q l = eachC mb q l
  | [], q, h => rfl
  | x :: l, q, h => by
    simp only [eachC, oneRow]
    simp only [List.length_cons] at h
    rw [h _ (by omega) (by omega), h _ (by omega) (by omega), eachC_mb l (q + 1) fun k h1 h2 => h k (by omega) (by omega)]
/-- One loader more, with two new maps and the row grown. -/
theorem LoV.add {W W' : World} {v' : Value} (h : LoV n0 w H S) {p : Int} (hn : S.each.length < 16) (hp : -1 ≤ p ∧ p < (S.each.length : Int))
    (hb : Below w.heap.size w W) (hz : w.heap.size + 2 ≤ W.heap.size) (hm1 : W.heap[w.heap.size]? = some (.map #[] 0)) (hm2 : W.heap[w.heap.size + 1]? = some (.map #[] 0))
    (hg : W.grownBy W' H.ev.ownBlock) (ha : Moved W.heap.size H.ev v') (ho : W'.ownsRow n0 64 3 v' (S.each.length + 1) (eachC H.mb 0 S.each ++ [.int .i64 p, .map (some w.heap.size), .map (some (w.heap.size + 1))])) :
    LoV n0 (W'.setCell ⟨H.hb, 0, none⟩ v') (H.add w.heap.size v') (S.add p) ∧ LStep H (H.add w.heap.size v') w (W'.setCell ⟨H.hb, 0, none⟩ v') := by
  have hlt := fun b (e : H.has b) => h.lt e
  have hev : ∀ b, b < w.heap.size → some b ≠ H.ev.ownBlock → b ≠ H.hb → (W'.setCell ⟨H.hb, 0, none⟩ v').heap[b]? = w.heap[b]? := fun b h1 h2 h3 =>
    ((heap_setCell_other W' ⟨H.hb, 0, none⟩ b _ h3).trans (hg.block b (by have := hb.size; omega) h2)).trans (hb.block b h1)
  have hbx : W'.heap[H.hb]? = w.heap[H.hb]? := (hg.block _ (by have := (hlt _ (.inl rfl)).2; have := hb.size; omega) (fun e => own_not h.eo h.box (by decide) e.symm)).trans (hb.block _ (hlt _ (.inl rfl)).2)
  have hbox : Blk W' H.hb #[H.ev, .map (some (H.mb 0))] 56 := h.box.kept hbx
  have hvb : v'.ownBlock ≠ some H.hb := own_not ho hbox (by decide)
  have hnew : ∀ b, w.heap.size ≤ b → b < w.heap.size + 2 → (W'.setCell ⟨H.hb, 0, none⟩ v').heap[b]? = W.heap[b]? := fun b h1 h2 =>
    (heap_setCell_other W' ⟨H.hb, 0, none⟩ b _ (by have := (hlt _ (.inl rfl)).2; show b ≠ H.hb; omega)).trans (hg.block b (by omega) (fun e => by have := (hlt b (.inr (.inl e.symm))).2; omega))
  have hmbl : ∀ k, k < 2 * S.each.length + 1 → H.mb k < w.heap.size := fun k hk => (h.maps k hk).2.lt
  have hnm := h.nm
  have ec : eachC (H.add w.heap.size v').mb 0 (S.add p).each = eachC H.mb 0 S.each ++ [.int .i64 p, .map (some w.heap.size), .map (some (w.heap.size + 1))] := by
    unfold Ls.add
    rw [eachC_snoc, eachC_mb (mb := H.mb) S.each 0 fun k h1 h2 => H.add_old _ _ (by omega)]
    simp only [oneRow, Nat.zero_add]
    simp only [LB.add]
    rw [if_pos (by omega), if_neg (by omega), if_pos (by omega)]
  have hcm : ∀ k, k < 2 * S.each.length + 1 → contM (H.add w.heap.size v').pr (S.add p) k = contM H.pr S k := fun k hk => by
    unfold contM
    show (if k = 0 then parC H.pr 0 S.ps else match (S.each ++ [_])[(k - 1) / 2]? with | none => [] | some x => _) = _
    by_cases h0 : k = 0
    · rw [if_pos h0, if_pos h0]
    · rw [if_neg h0, if_neg h0, List.getElem?_append_left (by omega)]
      cases S.each[(k - 1) / 2]? <;> rfl
  have hcn : ∀ k, k < 2 * (S.each.length + 1) + 1 → ¬ k < 2 * S.each.length + 1 → contM (H.add w.heap.size v').pr (S.add p) k = [] := fun k h1 h2 => by
    unfold contM
    show (if k = 0 then parC H.pr 0 S.ps else match (S.each ++ [_])[(k - 1) / 2]? with | none => [] | some x => _) = _
    rw [if_neg (by omega), List.getElem?_append_right (by omega), show (k - 1) / 2 - S.each.length = 0 by omega]
    simp only [List.getElem?_cons_zero, List.map_nil]
    split <;> rfl
  have hlen : (S.add p).each.length = S.each.length + 1 := by simp [Ls.add]
  have hn0 : n0 ≤ w.heap.size := by have := hlt _ (.inl rfl); omega
  refine ⟨⟨h.lo, ?_, ?_, by rw [hlen]; show H.nm + 2 = _; omega, h.np, ?_, ?_, ?_, h.prj, by omega, ?_⟩, ?_⟩
  · have := hbox.set 0 v'
    simp only [LB.add]
    rw [if_neg (by omega), if_neg (by omega)]
    simpa using this
  · rw [hlen, ec]
    exact own_kept ho fun g e => heap_setCell_other W' ⟨H.hb, 0, none⟩ g _ fun e2 => hvb (show v'.ownBlock = some H.hb from (show g = H.hb from e2) ▸ e)
  · rw [hlen]
    intro k hk
    by_cases hlt2 : k < 2 * S.each.length + 1
    · rw [H.add_old _ _ (by omega), hcm k hlt2]
      refine ⟨(h.maps k hlt2).1, (h.maps k hlt2).2.kept (hev _ (hmbl k hlt2) (fun e => own_notM h.eo (h.maps k hlt2).2 e.symm) fun e => ?_)⟩
      obtain ⟨es, cl, hm, _⟩ := (h.maps k hlt2).2
      have := h.box
      unfold Blk at this
      rw [← e, hm] at this
      cases this
    · rw [hcn k hk hlt2]
      by_cases e : k = H.nm
      · have : (H.add w.heap.size v').mb k = w.heap.size := by simp only [LB.add]; rw [if_pos e]
        rw [this]
        exact ⟨hn0, #[], 0, (hnew _ (Nat.le_refl _) (by omega)).trans hm1, rfl⟩
      · have : (H.add w.heap.size v').mb k = w.heap.size + 1 := by simp only [LB.add]; rw [if_neg e, if_pos (by omega)]
        rw [this]
        exact ⟨by omega, #[], 0, (hnew _ (by omega) (by omega)).trans hm2, rfl⟩
  · rw [hlen]
    intro j k hj hk e
    simp only [LB.add] at e
    have a1 := fun hj2 => hmbl j hj2
    have a2 := fun hk2 => hmbl k hk2
    have a3 := h.inj j k
    by_cases j1 : j = H.nm
    · rw [if_pos j1] at e
      by_cases k1 : k = H.nm
      · omega
      · rw [if_neg k1] at e
        by_cases k2 : k = H.nm + 1
        · rw [if_pos k2] at e; omega
        · rw [if_neg k2] at e
          have := a2 (by omega); omega
    · rw [if_neg j1] at e
      by_cases j2 : j = H.nm + 1
      · rw [if_pos j2] at e
        by_cases k1 : k = H.nm
        · rw [if_pos k1] at e; omega
        · rw [if_neg k1] at e
          by_cases k2 : k = H.nm + 1
          · omega
          · rw [if_neg k2] at e
            have := a2 (by omega); omega
      · rw [if_neg j2] at e
        have := a1 (by omega)
        by_cases k1 : k = H.nm
        · rw [if_pos k1] at e; omega
        · rw [if_neg k1] at e
          by_cases k2 : k = H.nm + 1
          · rw [if_pos k2] at e; omega
          · rw [if_neg k2] at e
            exact a3 (by omega) (by omega) e
  · intro i x e
    obtain ⟨a, L, b, c⟩ := h.prs i x e
    refine ⟨a, L, b, c.kept (hev _ c.lt (fun e2 => own_not h.eo c (by decide) e2.symm) fun e2 => ?_)⟩
    have := h.box
    unfold Blk at this c
    rw [← e2, c] at this
    simp at this
  · intro i x e
    unfold Ls.add at e
    simp only at e
    rw [List.getElem?_append] at e
    split at e
    · exact h.par i x e
    · rename_i hi
      cases hj : i - S.each.length with
      | zero =>
        rw [hj] at e
        cases e
        simp only
        omega
      | succ j => rw [hj] at e; simp at e
  · refine ⟨(hg.os).trans hb.os, (hg.tape).trans hb.tape, (hg.output).trans hb.output, by simp; have := hg.size; omega, fun b h1 h2 => hev b h1 (fun e => h2 (.inr (.inl e.symm))) (fun e => h2 (.inl e)), rfl, fun b e => ?_⟩
    rcases e with e | e | ⟨k, hk, e⟩ | e
    · exact .inl (.inl e)
    · rcases ha with e' | ⟨g, e', hg'⟩
      · exact .inl (.inr (.inl (e' ▸ e)))
      · refine .inr ?_
        have : v'.ownBlock = some b := e
        rw [e'] at this
        cases this
        omega
    · by_cases hk2 : k < H.nm
      · rw [H.add_old _ _ hk2] at e
        exact .inl (.inr (.inr (.inl ⟨k, hk2, e⟩)))
      · refine .inr ?_
        simp only [LB.add] at e
        split at e
        · omega
        · split at e
          · omega
          · have : k < H.nm + 2 := hk
            omega
    · exact .inl (.inr (.inr (.inr e)))
theorem Try.infoOne : (Try.prog.info? 64).map (fun i => (i.zero, i.size, i.bytes)) = some (some (.agg #[.int .i64 0, .map none, .map none]), 3, 24) := by kernel_rfl
def AddQ (n0 : Nat) (w : World) (H : LB) (S' : Ls) (w' : World) : Prop := ∃ H', LoV n0 w' H' S' ∧ LStep H H' w w'
set_option maxRecDepth 8000 in
set_option maxHeartbeats 2000000 in
theorem add_any (h : LoV n0 w H S) {p : Int} (hn : S.each.length < 16) (hp : -1 ≤ p ∧ p < (S.each.length : Int)) : Calls Try.prog 23 #[H.ptr, .int .i64 p] w fun e w' => (∃ u, e = .returned u) ∧ AddQ n0 w H (S.add p) w' := by
  have c0 := h.c0
  have z0 := h.box.frozen 0
  have hlt := (h.lt (.inl rfl)).2
  have hlo := (h.lt (.inl rfl)).1
  obtain ⟨ao, cap, ev⟩ := h.slice
  have ho := h.eo
  rw [ev] at c0 ho
  have FIN : Hid (∀ (ao' : Option Addr) (cap' : Nat) (W' : World), W'.ownsRow n0 64 3 (.slice ao' (S.each.length + 1) cap') (S.each.length + 1) (eachC H.mb 0 S.each ++ [.int .i64 p, .map (some w.heap.size), .map (some (w.heap.size + 1))]) → Step (.slice ao S.each.length cap) (((w.alloc (.map #[] 0)).alloc (.map #[] 0)).alloc (.cells #[.int .i64 p, .map (some w.heap.size), .map (some (w.heap.size + 1))] 64)) (.slice ao' (S.each.length + 1) cap') W' → W'.heap[H.hb]? = w.heap[H.hb]? ∧ AddQ n0 w H (S.add p) (W'.setCell ⟨H.hb, 0, none⟩ (.slice ao' (S.each.length + 1) cap'))) := hidIt fun ao' cap' W' ho' st =>
    ⟨by
      have hb : Below w.heap.size w (((w.alloc (.map #[] 0)).alloc (.map #[] 0)).alloc (.cells #[.int .i64 p, .map (some w.heap.size), .map (some (w.heap.size + 1))] 64)) := ((balloc w _).alloc (by simp) _).alloc (by simp; omega) _
      exact (st.grown.block _ (by have := hb.size; omega) (fun e => own_not h.eo h.box (by decide) (by rw [ev]; exact e.symm))).trans (hb.block _ hlt), _, h.add hn hp (((balloc w _).alloc (by simp) _).alloc (by simp; omega) _) (by simp) (by
      rw [Below.heap_alloc _ _ _ (by simp; omega), Below.heap_alloc _ _ _ (by simp)]; exact heap_alloc_new w _) (by
      rw [Below.heap_alloc _ _ _ (by simp)]
      have := heap_alloc_new (w.alloc (.map #[] 0)) (.map #[] 0)
      rwa [World.size_alloc] at this) (by rw [ev]; exact st.grown) (by rw [ev]; exact st.moved) ho'⟩
  have HO : Hid (((w.alloc (.map #[] 0)).alloc (.map #[] 0)).ownsRow n0 64 3 (.slice ao S.each.length cap) S.each.length (eachC H.mb 0 S.each)) := hidIt (own_below ho ((balloc w _).alloc (by simp) _))
  clear h ho ev
  unfold LB.ptr
  generalize eachC H.mb 0 S.each = xs at *
  generalize S.each.length = m at *
  go_enter Try.func23, Try.ntmps23
  go_wp2_with (first
    | refine wpList_mkmap rfl rfl ?_
    | (at_builtin; refine wpList_sapp Try.infoOne rfl (by decide) (by decide) Try.underlying54 rfl _ _ rfl [.int .i64 p, .map (some w.heap.size), .map (some (w.heap.size + 1))] rfl (by simp [Value.oneCell']) n0 _ _ _ HO.out rfl rfl (by simp) (by omega) (by simp; omega) ?_; intro ao' cap' W' ho' st; obtain ⟨f1, f2⟩ := FIN.out ao' cap' W' ho' st; have F := hidIt f2; have c1 : W'.cell? ⟨H.hb, 0, none⟩ = some (.slice ao m cap) := (World.cell?_of_block f1).trans c0; have z1 : W'.frozen? ⟨H.hb, 0, none⟩ = false := (World.frozen?_of_block f1).trans z0; clear ho' st f1 f2))
  go_end0
  exact ⟨⟨_, rfl⟩, F.out⟩

def Ls.empty : Ls := ⟨[], []⟩
set_option maxRecDepth 8000 in
set_option maxHeartbeats 2000000 in
theorem New_any (w : World) : Calls Try.prog 8 #[] w fun e w' => ∃ H, e = .returned H.ptr ∧ LoV w.heap.size w' H (Ls.empty.add (-1)) ∧ Below w.heap.size w w' := by
  have B0 : Blk ((w.alloc (.map #[] 0)).alloc (.cells #[.slice none 0 0, .map (some w.heap.size)] 56)) (w.heap.size + 1) #[.slice none 0 0, .map (some w.heap.size)] 56 := by
    have := Blk.new (w.alloc (.map #[] 0)) #[.slice none 0 0, .map (some w.heap.size)] 56
    rwa [World.size_alloc] at this
  have M0 : SMap ((w.alloc (.map #[] 0)).alloc (.cells #[.slice none 0 0, .map (some w.heap.size)] 56)) w.heap.size [] :=
    ⟨#[], 0, (Below.heap_alloc _ _ _ (by simp)).trans (heap_alloc_new w _), rfl⟩
  have L0 : LoV w.heap.size ((w.alloc (.map #[] 0)).alloc (.cells #[.slice none 0 0, .map (some w.heap.size)] 56)) ⟨w.heap.size + 1, .slice none 0 0, 1, fun _ => w.heap.size, 0, fun _ => 0⟩ Ls.empty :=
    ⟨by simp, B0, World.ownsRow_nil _ _ _ _, rfl, rfl, fun k hk => ⟨Nat.le_refl _, by
      obtain rfl : k = 0 := by simp [Ls.empty] at hk; omega
      exact M0⟩, fun j k hj hk _ => by simp [Ls.empty] at hj hk; omega, fun i x e => by simp [Ls.empty] at e, fun i j hi _ _ => by simp [Ls.empty] at hi, by simp [Ls.empty], fun i x e => by simp [Ls.empty] at e⟩
  have HBW : Hid (Below w.heap.size w ((w.alloc (.map #[] 0)).alloc (.cells #[.slice none 0 0, .map (some w.heap.size)] 56))) := hidIt ((balloc w _).alloc (by simp) _)
  have GA := hidIt (add_any L0 (p := -1) (by simp [Ls.empty]) (by simp [Ls.empty]))
  have HL := hidIt L0
  unfold LB.ptr at *
  clear L0 B0 M0
  go_enter Try.func8, Try.ntmps8
  go_wp2_with (first
    | refine wpList_mkmap rfl rfl ?_
    | (go_at_call 23; refine GA.out.mono ?_; rintro e w1 ⟨⟨u, rfl⟩, H', hv, hs⟩; have HV := hidIt hv; have HS := hidIt hs; have eh := hs.hb; clear hv hs))
  go_ret
  exact ⟨H', by rw [eh]; rfl, HV.out, HBW.out.trans (HS.out.below (by simp; omega) fun b e => (HL.out.lt e).1)⟩

def Ls.child (S : Ls) (p : Int) : Ls × Int × Int :=
  if S.hasB p = true then (if S.each.length = 16 then (S, 0, 4) else (S.add p, S.each.length, 0)) else (S, 0, 1)
theorem AddQ.same (h : LoV n0 w H S) : AddQ n0 w H S w := ⟨H, h, LStep.refl _ _⟩
set_option maxRecDepth 8000 in
set_option maxHeartbeats 2000000 in
theorem Child_any (h : LoV n0 w H S) (p : Int) : Calls Try.prog 9 #[H.ptr, .int .i64 p] w fun e w' => e = .returned (.tuple #[.int .i64 (S.child p).2.1, .int .i64 (S.child p).2.2]) ∧ AddQ n0 w H (S.child p).1 w' := by
  have G := hidIt (lhas_any h p)
  have HV := hidIt h
  unfold Ls.child
  cases hh : S.hasB p with
  | false =>
    rw [hh] at G
    simp only [Bool.false_eq_true, if_false]
    clear h
    unfold LB.ptr at *
    go_enter Try.func9, Try.ntmps9
    go_wp2_with (go_at_call 24; refine G.out.mono ?_; rintro e w' ⟨rfl, hww⟩; cases hww)
    go_ret2
    exact ⟨rfl, AddQ.same HV.out⟩
  | true =>
    rw [hh] at G
    simp only [if_true]
    have c0 := h.c0
    have hf := h.few
    obtain ⟨ao, cap, ev⟩ := h.slice
    rw [ev] at c0
    by_cases hm : S.each.length = 16
    · rw [if_pos hm]
      rw [hm] at c0
      clear h hh
      unfold LB.ptr at *
      go_enter Try.func9, Try.ntmps9
      go_wp2_with (go_at_call 24; refine G.out.mono ?_; rintro e w' ⟨rfl, hww⟩; cases hww)
      go_ret2
      exact ⟨rfl, AddQ.same HV.out⟩
    · rw [if_neg hm]
      obtain ⟨i, x, rfl, hi, _⟩ := has_lt hh
      have GA := hidIt (add_any h (p := (i : Int)) (by omega) (by omega))
      have hm' : ((S.each.length : Int) == 16) = false := by simp; omega
      clear h hh ev
      unfold LB.ptr at *
      generalize S.each.length = m at *
      go_enter Try.func9, Try.ntmps9
      go_wp2_with (first
        | (go_at_call 24; refine G.out.mono ?_; rintro e w' ⟨rfl, hww⟩; cases hww)
        | (go_at_call 23; refine GA.out.mono ?_; rintro e w1 ⟨⟨u, rfl⟩, hq⟩; have HQ := hidIt hq; clear hq))
      go_ret2
      exact ⟨rfl, HQ.out⟩

theorem str_ne {s : ByteArray} (h : ¬ s = ⟨#[]⟩) : ¬ s.toList = [] := by
  rw [Lib.toList_data]
  intro e
  apply h
  cases s with
  | mk d =>
    have : d = #[] := by simpa using e
    rw [this]
/-- How an offer is refused: by its loader, a name, the id. -/
def nmB (s : ByteArray) : Bool := Q.D.nameB s.data.toList
def Ls.setN (S : Ls) (i : Nat) (x : Ln) : Ls := ⟨S.each.set i x, S.ps⟩
def Ls.offer (S : Ls) (n : Int) (nm sp : ByteArray) (id : Int) : Ls × Int :=
  if S.hasB n && nmB nm && (decide (sp = ⟨#[]⟩) || nmB sp) && decide (0 ≤ id) then match S.each[n.toNat]? with
    | some x => match alook x.of nm with
      | some _ => (S, 23)
      | none => (S.setN n.toNat { x with of := x.of ++ [(nm, sp, id)] }, 0)
    | none => (S, 1)
  else (S, 1)
theorem zero_off (w : World) : (zeroValue 66).run Try.prog w = .ok (.agg #[.string ⟨#[]⟩, .int .i64 0]) w := by
  exact Try.zeroValue66 w
theorem contM_set {pr : Nat → Nat} {i : Nat} {x y : Ln} (hx : S.each[i]? = some x) {k : Nat} (h1 : k ≠ 2 * i + 1 ∨ y.of = x.of) (h2 : k ≠ 2 * i + 2 ∨ y.ld = x.ld) : contM pr (S.setN i y) k = contM pr S k := by
  have hlt := (List.getElem?_eq_some_iff.1 hx).1
  unfold contM Ls.setN
  by_cases h0 : k = 0
  · rw [if_pos h0, if_pos h0]
  · rw [if_neg h0, if_neg h0, List.getElem?_set]
    by_cases e : i = (k - 1) / 2
    · rw [if_pos e, if_pos hlt, ← e, hx]
      simp only
      by_cases hk : k % 2 = 1
      · rw [if_pos hk, if_pos hk]
        rcases h1 with h1 | h1
        · omega
        · rw [h1]
      · rw [if_neg hk, if_neg hk]
        rcases h2 with h2 | h2
        · omega
        · rw [h2]
    · rw [if_neg e]
theorem contM_of {pr : Nat → Nat} {i : Nat} {x : Ln} (hx : S.each[i]? = some x) : contM pr S (2 * i + 1) = x.of.map fun p => (p.1, offV p.2) := by
  unfold contM
  rw [if_neg (by omega), show (2 * i + 1 - 1) / 2 = i by omega, hx]
  simp only [show (2 * i + 1) % 2 = 1 by omega, if_true]
theorem contM_ld {pr : Nat → Nat} {i : Nat} {x : Ln} (hx : S.each[i]? = some x) : contM pr S (2 * i + 2) = x.ld.map fun p => (p.1, clsV p.2) := by
  unfold contM
  rw [if_neg (by omega), show (2 * i + 2 - 1) / 2 = i by omega, hx]
  simp only [show ¬ (2 * i + 2) % 2 = 1 by omega, if_false]
theorem setN_at {i : Nat} {x y : Ln} (hx : S.each[i]? = some x) : (S.setN i y).each[i]? = some y := by
  have := (List.getElem?_eq_some_iff.1 hx).1
  unfold Ls.setN
  rw [List.getElem?_set_self this]
theorem setN_par {i : Nat} {x y : Ln} (hx : S.each[i]? = some x) (hp : y.par = x.par) (j : Nat) : ((S.setN i y).each[j]?).map Ln.par = (S.each[j]?).map Ln.par := by
  unfold Ls.setN
  rw [List.getElem?_set]
  split
  · rename_i e
    subst e
    split
    · rw [hx]; simp [hp]
    · rename_i h
      exact absurd (List.getElem?_eq_some_iff.1 hx).1 h
  · rfl
theorem LoV.putOf (h : LoV n0 w H S) {i : Nat} {x : Ln} (hx : S.each[i]? = some x) {o : Obj} (nm sp : ByteArray) (id : Int) (hm : SMap (setBlock w (H.mb (2 * i + 1)) o) (H.mb (2 * i + 1)) ((x.of.map fun p => (p.1, offV p.2)) ++ [(nm, offV (sp, id))])) :
    AddQ n0 w H (S.setN i { x with of := x.of ++ [(nm, sp, id)] }) (setBlock w (H.mb (2 * i + 1)) o) := by
  have hlt := (List.getElem?_eq_some_iff.1 hx).1
  obtain ⟨a, b⟩ := h.setM (S' := S.setN i { x with of := x.of ++ [(nm, sp, id)] }) (k := 2 * i + 1) (by omega) (o := o) (by
    rw [contM_of (setN_at hx)]; simpa using hm) (fun j hj => contM_set hx (.inl hj) (.inr rfl)) (by simp [Ls.setN]) (setN_par hx rfl) rfl
  exact ⟨H, a, b⟩
theorem LoV.putLd (h : LoV n0 w H S) {i : Nat} {x : Ln} (hx : S.each[i]? = some x) {o : Obj} (nm : ByteArray) (c : Int × Int) (hm : SMap (setBlock w (H.mb (2 * i + 2)) o) (H.mb (2 * i + 2)) ((x.ld.map fun p => (p.1, clsV p.2)) ++ [(nm, clsV c)])) :
    LoV n0 (setBlock w (H.mb (2 * i + 2)) o) H (S.setN i { x with ld := x.ld ++ [(nm, c)] }) ∧ LStep H H w (setBlock w (H.mb (2 * i + 2)) o) := by
  have hlt := (List.getElem?_eq_some_iff.1 hx).1
  exact h.setM (S' := S.setN i { x with ld := x.ld ++ [(nm, c)] }) (k := 2 * i + 2) (by omega) (o := o) (by
    rw [contM_ld (setN_at hx)]; simpa using hm) (fun j hj => contM_set hx (.inr rfl) (.inl hj)) (by simp [Ls.setN]) (setN_par hx rfl) rfl
set_option maxRecDepth 8000 in
set_option maxHeartbeats 2000000 in
theorem Offer_no (h : LoV n0 w H S) (n : Int) (nm sp : ByteArray) (id : Int) (hno : (S.hasB n && nmB nm && (decide (sp = ⟨#[]⟩) || nmB sp) && decide (0 ≤ id)) = false) : Calls Try.prog 11 #[H.ptr, .int .i64 n, .string nm, .string sp, .int .i64 id] w fun e w' => e = .returned (.int .i64 1) ∧ w' = w := by
  have G := hidIt (lhas_any h n)
  have GN := hidIt (fun s => Q.D.name_any s w)
  clear h
  unfold LB.ptr nmB at *
  generalize S.hasB n = a at *
  cases a
  · go_enter Try.func11, Try.ntmps11
    go_wp2_with (first
      | (go_at_call 24; refine G.out.mono ?_; rintro e w' ⟨rfl, hww⟩; cases hww)
      | (go_at_call 27; refine (GN.out _).mono ?_; rintro e w' ⟨rfl, hww⟩; cases hww))
    go_ret
    exact ⟨rfl, rfl⟩
  · cases hb : Q.D.nameB nm.data.toList
    · go_enter Try.func11, Try.ntmps11
      go_wp2_with (first
        | (go_at_call 24; refine G.out.mono ?_; rintro e w' ⟨rfl, hww⟩; cases hww)
        | (go_at_call 27; refine (GN.out _).mono ?_; rintro e w' ⟨rfl, hww⟩; cases hww))
      go_ret
      exact ⟨rfl, rfl⟩
    · by_cases hs : sp = ⟨#[]⟩
      · subst hs
        have hid : id < 0 := by
          rw [hb] at hno
          simpa using hno
        clear hno
        go_enter Try.func11, Try.ntmps11
        go_wp2_with (first
          | (go_at_call 24; refine G.out.mono ?_; rintro e w' ⟨rfl, hww⟩; cases hww)
          | (go_at_call 27; refine (GN.out _).mono ?_; rintro e w' ⟨rfl, hww⟩; cases hww))
        go_ret
        exact ⟨rfl, rfl⟩
      · have hs' := str_ne hs
        cases hd : Q.D.nameB sp.data.toList
        · clear hno
          go_enter Try.func11, Try.ntmps11
          go_wp2_with (first
            | (go_at_call 24; refine G.out.mono ?_; rintro e w' ⟨rfl, hww⟩; cases hww)
            | (go_at_call 27; refine (GN.out _).mono ?_; rintro e w' ⟨rfl, hww⟩; cases hww))
          go_ret
          exact ⟨rfl, rfl⟩
        · have hid : id < 0 := by
            rw [hb, hd] at hno
            simpa using hno
          clear hno
          go_enter Try.func11, Try.ntmps11
          go_wp2_with (first
            | (go_at_call 24; refine G.out.mono ?_; rintro e w' ⟨rfl, hww⟩; cases hww)
            | (go_at_call 27; refine (GN.out _).mono ?_; rintro e w' ⟨rfl, hww⟩; cases hww))
          go_ret
          exact ⟨rfl, rfl⟩
set_option maxRecDepth 8000 in
set_option maxHeartbeats 2000000 in
theorem Offer_yes (h : LoV n0 w H S) {i : Nat} {x : Ln} (hx : S.each[i]? = some x) (nm sp : ByteArray) (id : Int) (hb : nmB nm = true) (hsp : sp = ⟨#[]⟩ ∨ nmB sp = true) (hid : ¬ id < 0) : Calls Try.prog 11 #[H.ptr, .int .i64 (i : Int), .string nm, .string sp, .int .i64 id] w fun e w' =>
    (∀ c, alook x.of nm = some c → e = .returned (.int .i64 23) ∧ AddQ n0 w H S w') ∧ (alook x.of nm = none → e = .returned (.int .i64 0) ∧ AddQ n0 w H (S.setN i { x with of := x.of ++ [(nm, sp, id)] }) w') := by
  have G := hidIt (lhas_any h (i : Int))
  have GN := hidIt (fun s => Q.D.name_any s w)
  have hi := (List.getElem?_eq_some_iff.1 hx).1
  have hh : S.hasB (i : Int) = true := by unfold Ls.hasB; exact decide_eq_true (by omega)
  rw [hh] at G
  have HV := hidIt h
  have hf := h.few
  obtain ⟨g, cap, ev, hc, hg, k0, k1, k2, m1, m2⟩ := h.row hx
  have c0 := h.c0
  rw [ev] at c0
  have hlk := m1.look2 Try.underlying61 Try.underlying9 (zero_off w) nm
  rw [slook_map] at hlk
  cases hl : alook x.of nm with
  | some c =>
    rw [hl] at hlk
    simp only [Option.map_some, Option.getD_some, Option.isSome_some, offV] at hlk
    have FIN : Hid (∀ w', Below w.heap.size w w' → AddQ n0 w H S w') := hidIt fun w' hb => ⟨H, HV.out.below hb, LStep.of_below hb⟩
    clear h m1 m2 hh HV ev hl
    unfold LB.ptr nmB at *
    generalize S.each.length = m at *
    have hi' : (i : Int) < (m : Int) := by omega
    by_cases hs : sp = ⟨#[]⟩
    · subst hs
      clear hsp
      go_enter Try.func11, Try.ntmps11
      go_wp2_with (first
        | (go_at_call 24; refine G.out.mono ?_; rintro e w' ⟨rfl, hww⟩; cases hww)
        | (go_at_call 27; refine (GN.out _).mono ?_; rintro e w' ⟨rfl, hww⟩; cases hww))
      go_ret
      exact ⟨fun _ _ => ⟨rfl, FIN.out _ (balloc _ _)⟩, fun e => by cases e⟩
    · have hd := hsp.resolve_left hs
      have hs' := str_ne hs
      clear hsp
      go_enter Try.func11, Try.ntmps11
      go_wp2_with (first
        | (go_at_call 24; refine G.out.mono ?_; rintro e w' ⟨rfl, hww⟩; cases hww)
        | (go_at_call 27; refine (GN.out _).mono ?_; rintro e w' ⟨rfl, hww⟩; cases hww))
      go_ret
      exact ⟨fun _ _ => ⟨rfl, FIN.out _ (balloc _ _)⟩, fun e => by cases e⟩
  | none =>
    rw [hl] at hlk
    simp only [Option.map_none, Option.getD_none, Option.isSome_none] at hlk
    have b1 := balloc w (.cells #[.string ⟨#[]⟩, .int .i64 0] 66)
    obtain ⟨es, clk, hput, IM⟩ := (m1.kept (b1.block _ m1.lt)).put Try.underlying61 Try.underlying9 nm (offV (sp, id)) (by rw [slook_map, hl]; rfl)
    have FIN : Hid (AddQ n0 w H (S.setN i { x with of := x.of ++ [(nm, sp, id)] }) (setBlock (w.alloc (.cells #[.string ⟨#[]⟩, .int .i64 0] 66)) (H.mb (2 * i + 1)) (.map es clk))) := hidIt (by
      obtain ⟨H', a, b⟩ := (HV.out.below b1).putOf hx nm sp id IM
      exact ⟨H', a, (LStep.of_below b1).trans b⟩)
    unfold offV at hput
    clear h m1 m2 hh HV ev hl IM b1
    unfold LB.ptr nmB at *
    generalize S.each.length = m at *
    have hi' : (i : Int) < (m : Int) := by omega
    by_cases hs : sp = ⟨#[]⟩
    · subst hs
      clear hsp
      go_enter Try.func11, Try.ntmps11
      go_wp2_with (first
        | (go_at_call 24; refine G.out.mono ?_; rintro e w' ⟨rfl, hww⟩; cases hww)
        | (go_at_call 27; refine (GN.out _).mono ?_; rintro e w' ⟨rfl, hww⟩; cases hww))
      go_ret
      exact ⟨(fun _ e => by cases e), (fun _ => ⟨rfl, FIN.out⟩)⟩
    · have hd := hsp.resolve_left hs
      have hs' := str_ne hs
      clear hsp
      go_enter Try.func11, Try.ntmps11
      go_wp2_with (first
        | (go_at_call 24; refine G.out.mono ?_; rintro e w' ⟨rfl, hww⟩; cases hww)
        | (go_at_call 27; refine (GN.out _).mono ?_; rintro e w' ⟨rfl, hww⟩; cases hww))
      go_ret
      exact ⟨(fun _ e => by cases e), (fun _ => ⟨rfl, FIN.out⟩)⟩
/-- Offer, told by S.offer. -/
theorem Offer_any (h : LoV n0 w H S) (n : Int) (nm sp : ByteArray) (id : Int) : Calls Try.prog 11 #[H.ptr, .int .i64 n, .string nm, .string sp, .int .i64 id] w fun e w' => e = .returned (.int .i64 (S.offer n nm sp id).2) ∧ AddQ n0 w H (S.offer n nm sp id).1 w' := by
  unfold Ls.offer
  cases hc : (S.hasB n && nmB nm && (decide (sp = ⟨#[]⟩) || nmB sp) && decide (0 ≤ id)) with
  | false =>
    simp only [Bool.false_eq_true, if_false]
    exact (Offer_no h n nm sp id hc).mono fun e w' ⟨a, b⟩ => by cases b; exact ⟨a, AddQ.same h⟩
  | true =>
    simp only [if_true]
    simp only [Bool.and_eq_true, Bool.or_eq_true, decide_eq_true_eq] at hc
    obtain ⟨⟨⟨h1, h2⟩, h3⟩, h4⟩ := hc
    obtain ⟨i, x, rfl, hi, hx⟩ := has_lt h1
    rw [Int.toNat_natCast, hx]
    have G := Offer_yes h hx nm sp id h2 h3 (by omega)
    simp only []
    cases hl : alook x.of nm with
    | some c => exact G.mono fun e w' ⟨a, b⟩ => a c hl
    | none => exact G.mono fun e w' ⟨a, b⟩ => b hl
end Go.Proofs.Ytacmooknfbjpeaa.J
