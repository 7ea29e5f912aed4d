/- Array, Object; lists of numbers and of truths. -/
import Derived.Test.YtbdeflpjplhafaaJH
import Derived.Laws.BytesArg
namespace Go.Proofs.Ytbdeflpjplhafaa.J
open Go.RowKit Go.MapKept Go.ChangeMaps
set_option linter.unusedVariables false

variable {n0 : Nat} {w : World} {H : HB} {most : Nat} {l : List Ob} {ss : List (List Bool)}
theorem Array_bad (refs : Bool) (n : Int) (hn : n < 0 ∨ 256 < n) (p : Value) (w : World) : Calls Try.prog 22 #[p, .bool refs, .int .i64 n] w fun e w' => e = .returned (.tuple #[.int .i64 0, .int .i64 1]) ∧ w' = w := by
  by_cases h1 : n < 0
  · go_enter Try.func22, Try.ntmps22
    go_wp2
    go_ret2
    exact ⟨rfl, rfl⟩
  · have h2 : 256 < n := by omega
    go_enter Try.func22, Try.ntmps22
    go_wp2
    go_ret2
    exact ⟨rfl, rfl⟩
def arrS (refs : Bool) : Int := if refs then -2 else -1
theorem Array_full (h : HeapV n0 w H most l ss) (refs : Bool) (n : Nat) (hn : n ≤ 256) (hf : most < usedN l + (n + 3)) : Calls Try.prog 22 #[H.ptr, .bool refs, .int .i64 (n : Int)] w fun e w' => e = .returned (.tuple #[.int .i64 0, .int .i64 26]) ∧ Below w.heap.size w w' := by
  have h1 : ¬ (n : Int) < 0 := by omega
  have h2 : ¬ 256 < (n : Int) := by omega
  cases refs with
  | true =>
    have G := hidIt (add_full h (-2) n (by omega) hf)
    unfold HB.ptr at G ⊢
    go_enter Try.func22, Try.ntmps22
    go_wp2_with (go_at_call 45; refine G.out.mono ?_; rintro e w' ⟨rfl, hb⟩)
    go_ret2
    exact ⟨rfl, hb⟩
  | false =>
    have G := hidIt (add_full h (-1) n (by omega) hf)
    unfold HB.ptr at G ⊢
    go_enter Try.func22, Try.ntmps22
    go_wp2_with (go_at_call 45; refine G.out.mono ?_; rintro e w' ⟨rfl, hb⟩)
    go_ret2
    exact ⟨rfl, hb⟩
def NewQ (n0 : Nat) (w : World) (H : HB) (most : Nat) (l : List Ob) (ss : List (List Bool)) (o : Ob) (w' : World) : Prop := ∃ H', HeapV n0 w' H' most (l ++ [o]) ss ∧ HStep H H' w w'
theorem Array_any (h : HeapV n0 w H most l ss) (refs : Bool) (n : Nat) (hn : n ≤ 256) (hf : usedN l + (n + 3) ≤ most) : Calls Try.prog 22 #[H.ptr, .bool refs, .int .i64 (n : Int)] w fun e w' => e = .returned (.tuple #[.int .i64 ((usedN l : Int) + 1), .int .i64 0]) ∧ NewQ n0 w H most l ss ⟨arrS refs, 0, List.replicate n 0⟩ w' := by
  have h1 : ¬ (n : Int) < 0 := by omega
  have h2 : ¬ 256 < (n : Int) := by omega
  cases refs with
  | true =>
    have G := hidIt ((add_any h (-2) n (by omega) (by omega) (by omega) hf).mono (R' := fun e w' => e = .returned (.tuple #[.int .i64 ((usedN l : Int) + 1), .int .i64 0]) ∧ NewQ n0 w H most l ss ⟨arrS true, 0, List.replicate n 0⟩ w') (fun e w' ⟨H', e1, e2, e3⟩ => ⟨e1, H', e2, e3⟩))
    unfold HB.ptr at G ⊢
    generalize NewQ n0 w H most l ss ⟨arrS true, 0, List.replicate n 0⟩ = Q at *
    go_enter Try.func22, Try.ntmps22
    go_wp2_with (go_at_call 45; refine G.out.mono ?_; rintro e w' ⟨rfl, hb⟩)
    go_ret2
    exact ⟨rfl, hb⟩
  | false =>
    have G := hidIt ((add_any h (-1) n (by omega) (by omega) (by omega) hf).mono (R' := fun e w' => e = .returned (.tuple #[.int .i64 ((usedN l : Int) + 1), .int .i64 0]) ∧ NewQ n0 w H most l ss ⟨arrS false, 0, List.replicate n 0⟩ w') (fun e w' ⟨H', e1, e2, e3⟩ => ⟨e1, H', e2, e3⟩))
    unfold HB.ptr at G ⊢
    generalize NewQ n0 w H most l ss ⟨arrS false, 0, List.replicate n 0⟩ = Q at *
    go_enter Try.func22, Try.ntmps22
    go_wp2_with (go_at_call 45; refine G.out.mono ?_; rintro e w' ⟨rfl, hb⟩)
    go_ret2
    exact ⟨rfl, hb⟩
theorem Object_bad (h : HeapV n0 w H most l ss) (s : Int) (hs : s < 0 ∨ (ss.length : Int) ≤ s) : Calls Try.prog 24 #[H.ptr, .int .i64 s] w fun e w' => e = .returned (.tuple #[.int .i64 0, .int .i64 1]) ∧ w' = w := by
  have c3 : w.cell? ⟨H.hb, 3, none⟩ = some H.sv := h.box.cell 3
  obtain ⟨ao, cap, e⟩ := own_slice h.so
  rw [e] at c3
  unfold HB.ptr
  by_cases h1 : s < 0
  · go_enter Try.func24, Try.ntmps24
    go_wp2
    go_ret2
    exact ⟨rfl, rfl⟩
  · have h2 : (ss.length : Int) ≤ s := by omega
    generalize ss.length = S at *
    go_enter Try.func24, Try.ntmps24
    go_wp2
    go_ret2
    exact ⟨rfl, rfl⟩
set_option maxRecDepth 8000 in
theorem Object_then (h : HeapV n0 w H most l ss) (s : Nat) (r : List Bool) (hr : ss[s]? = some r) (a b : Int) (Q : World → Prop) (G0 : Calls Try.prog 45 #[H.ptr, .int .i64 (s : Int), .int .i64 (r.length : Int)] w fun e w' => e = .returned (.tuple #[.int .i64 a, .int .i64 b]) ∧ Q w') :
    Calls Try.prog 24 #[H.ptr, .int .i64 (s : Int)] w fun e w' => e = .returned (.tuple #[.int .i64 a, .int .i64 b]) ∧ Q w' := by
  have c3 : w.cell? ⟨H.hb, 3, none⟩ = some H.sv := h.box.cell 3
  obtain ⟨ao, cap, e⟩ := own_slice h.so
  have ho := h.so
  rw [e] at c3 ho
  obtain ⟨g, rfl, -, -, hc, -⟩ := own_cell ho (xs_at hr)
  have hsl : s < ss.length := (List.getElem?_eq_some_iff.1 hr).1
  have hsl' : (s : Int) < (ss.length : Int) := by omega
  have hs0 : ¬ (s : Int) < 0 := by omega
  have G := hidIt G0
  have HT : (txt r).size = r.length := txt_len r
  rw [← HT] at G
  unfold HB.ptr at G ⊢
  generalize txt r = T at *
  generalize ss.length = S at *
  clear ho e G0 HT
  go_enter Try.func24, Try.ntmps24
  go_wp2_with (go_at_call 45; refine G.out.mono ?_; rintro e w' ⟨rfl, hb⟩)
  go_ret2
  exact ⟨rfl, hb⟩
theorem Object_any (h : HeapV n0 w H most l ss) (s : Nat) (r : List Bool) (hr : ss[s]? = some r) (hn : r.length ≤ 100000) (hf : usedN l + (r.length + 3) ≤ most) : Calls Try.prog 24 #[H.ptr, .int .i64 (s : Int)] w fun e w' => e = .returned (.tuple #[.int .i64 ((usedN l : Int) + 1), .int .i64 0]) ∧ NewQ n0 w H most l ss ⟨(s : Int), 0, List.replicate r.length 0⟩ w' :=
  Object_then h s r hr _ _ _ ((add_any h (s : Int) r.length hn (by omega) (fun _ => ⟨r, by simpa using hr, rfl⟩) hf).mono (fun e w' ⟨H', e1, e2, e3⟩ => ⟨e1, H', e2, e3⟩))
theorem Object_full (h : HeapV n0 w H most l ss) (s : Nat) (r : List Bool) (hr : ss[s]? = some r) (hn : r.length ≤ 100000) (hf : most < usedN l + (r.length + 3)) : Calls Try.prog 24 #[H.ptr, .int .i64 (s : Int)] w fun e w' => e = .returned (.tuple #[.int .i64 0, .int .i64 26]) ∧ Below w.heap.size w w' :=
  Object_then h s r hr _ _ _ (add_full h (s : Int) r.length hn hf)

/-! Lists of numbers. -/
theorem own_below {w w' : World} {B e s n : Nat} {v : Value} {xs : List Value} (h : w.ownsRow B e s v n xs) (hb : Below w.heap.size w w') : w'.ownsRow B e s v n xs := own_kept h fun g e => hb.block g (h.lt g e).2
def Moved (H : Nat) (v v' : Value) : Prop := v'.ownBlock = v.ownBlock ∨ ∃ g, v'.ownBlock = some g ∧ H ≤ g
structure Step (v : Value) (w : World) (v' : Value) (w' : World) : Prop where
  grown : w.grownBy w' v.ownBlock
  moved : Moved w.heap.size v v'
theorem Step.below {v v' : Value} {w w' : World} (h : Step v w v' w') {B : Nat} (hB : B ≤ w.heap.size) (hv : ∀ k, v.ownBlock = some k → B ≤ k) : Below B w w' :=
  (Below.refl _ _).grown h.grown hB hv
def NOwn (w : World) (B : Nat) (v : Value) (l : List Int) : Prop := w.ownsRow B 3 1 v l.length (icells l)
def NView (w : World) (v : Value) (l : List Int) : Prop :=
  ∃ ao cap, v = .slice ao l.length cap ∧ l.length ≤ cap ∧ cap ≤ maxLen ∧ (l = [] ∨ ∃ g off, ao = some ⟨g, off, none⟩ ∧ ∀ (j : Nat) (x : Int), l[j]? = some x → w.cell? ⟨g, off + j, none⟩ = some (.int .i64 x))
theorem NView.below {w w' : World} {v : Value} {l : List Int} (h : NView w v l) (hb : Below w.heap.size w w') : NView w' v l := by
  obtain ⟨ao, cap, e, hc, hm, hl⟩ := h
  refine ⟨ao, cap, e, hc, hm, ?_⟩
  rcases hl with h | ⟨g, off, e, hl⟩
  · exact .inl h
  · exact .inr ⟨g, off, e, fun j x hj => cell_later hb (hl j x hj)⟩
theorem NView.row {w : World} {ao : Option Addr} {n cap : Nat} {l : List Int} (h : NView w (.slice ao n cap) l) {j : Nat} {x : Int} (hj : l[j]? = some x) : ∃ g off, ao = some ⟨g, off, none⟩ ∧ w.cell? ⟨g, off + j, none⟩ = some (.int .i64 x) := by
  obtain ⟨ao', cap', e, hc, hm, hl⟩ := h
  cases e
  rcases hl with rfl | ⟨g, off, rfl, hl⟩
  · simp at hj
  · exact ⟨g, off, rfl, hl j x hj⟩
theorem NOwn.view {w : World} {B : Nat} {v : Value} {l : List Int} (h : NOwn w B v l) : NView w v l := by
  obtain ⟨ao, cap, rfl⟩ := own_slice h
  obtain ⟨h1, h2⟩ := own_cap h
  refine ⟨ao, cap, rfl, h1, h2, ?_⟩
  cases hl : l with
  | nil => exact .inl rfl
  | cons y r =>
    obtain ⟨g, rfl, -⟩ := own_cell h (j := 0) (x := .int .i64 y) (by rw [hl]; rfl)
    refine .inr ⟨g, 0, rfl, fun j x hj => ?_⟩
    obtain ⟨g', e, -, -, hc, -⟩ := own_cell h (icells_at (hl ▸ hj))
    cases e
    rw [Nat.zero_add]; exact hc
theorem NOwn.nil (w : World) (B : Nat) : NOwn w B (.slice none 0 0) [] := World.ownsRow_nil _ _ _ _
theorem Try.infoN : (Try.prog.info? 3).map (fun i => (i.zero, i.size, i.bytes)) = some (some (.int .i64 0), 1, 8) := by kernel_rfl
theorem icells_one (l : List Int) : ∀ u ∈ icells l, u.oneCell' = true := by
  intro u hu
  simp only [icells, List.mem_map] at hu
  obtain ⟨x, _, rfl⟩ := hu
  rfl
theorem wpList_nappend {w : World} {ops : Array Oper} {rest : List Oper} {o : Oper} {a : Act} {Q : Exit → Act → World → Prop} (hgd : o.guard = none) (s x : Operand)
    (ho : o.op = .call { callee := .builtin .append, args := #[s, x], argTypes := #[24, 24] })
    (B : Nat) (v : Value) (l : List Int) (y : Int) (hown : NOwn w B v l) (hs : a.eval s = v) (hx : a.eval x = .slice (some ⟨w.heap.size, 0, none⟩) 1 1)
    (hlen : l.length ≤ 10000000000000) (hB : B ≤ w.heap.size)
    (h : ∀ ao' cap' w', NOwn w' B (.slice ao' (l.length + 1) cap') (l ++ [y]) → Step v (w.alloc (.cells #[.int .i64 y] 3)) (.slice ao' (l.length + 1) cap') w' → wpList Try.prog ops Q rest (a.put o.dst (.slice ao' (l.length + 1) cap')) w') :
    wpList Try.prog ops Q (o :: rest) a (w.alloc (.cells #[.int .i64 y] 3)) := by
  obtain ⟨i0, hi, hz0, hz1, hz2⟩ := info_parts Try.infoN
  refine wpList_plain hgd fun K hK => ?_
  have hown' : (w.alloc (.cells #[.int .i64 y] 3)).ownsRow B 3 1 v l.length (icells l) := own_below hown (balloc w _)
  obtain ⟨v', w', hr, h2, h3, _, h4⟩ := run_append_own_at (P := Try.prog) (w.alloc (.cells #[.int .i64 y] 3)) B 24 o.type 3 i0 (.int .i64 0) 1 8 Try.underlying24 hi hz0 hz1 hz2 rfl (by decide) v l.length (icells l) hown' ⟨w.heap.size, 0, none⟩ 1 1 [.int .i64 y] rfl
    (fun j u hj => by
      have e : (⟨w.heap.size, 0, none⟩ : Addr).add j = ⟨w.heap.size, j, none⟩ := by unfold Addr.add; split <;> simp_all
      rw [e]
      have := (Blk.new w #[.int .i64 y] 3).cell j
      rw [this]
      simpa using hj) (icells_one [y]) (by unfold maxLen; omega) (by omega) (by simp; omega)
  unfold Oper.wp execOp
  simp only [ho, resolve, invoke, builtin, Sem.run_bind, Sem.run_pure, Result.andThen_ok, List.map_toArray, List.map_cons, List.map_nil, hs, hx, hr]
  obtain ⟨ao', cap', rfl⟩ := own_slice h2
  refine hK _ _ (h ao' cap' w' ?_ ⟨h3, h4.imp id fun e => ⟨_, e, Nat.le_refl _⟩⟩)
  show w'.ownsRow B 3 1 _ (l ++ [y]).length (icells (l ++ [y]))
  rw [show icells (l ++ [y]) = icells l ++ [.int .i64 y] by simp [icells], List.length_append]
  exact h2
set_option maxRecDepth 8000 in
set_option maxHeartbeats 2000000 in
theorem nsame_any (v u : Value) (l : List Int) (w : World) (hv : NView w v l) (hu : NView w u l) :
    Calls Try.prog 10 #[v, u] w fun e w' => e = .returned (.bool true) ∧ Below w.heap.size w w' := by
  have HV := hidIt hv
  have HU := hidIt hu
  obtain ⟨ao, cap, rfl, hc, hm, _⟩ := hv
  obtain ⟨ao2, cap2, rfl, hc2, hm2, _⟩ := hu
  unfold maxLen at hm hm2
  go_enter Try.func10, Try.ntmps10
  go_wp2
  go_loopw [5] (fun i wr => ∃ k q : Nat, i = .int .i64 (k : Int) ∧ k ≤ l.length ∧ wr = w.drewN q) (fun i _ => l.length - (intOf i).toNat)
  case atStart => exact ⟨0, 0, rfl, Nat.zero_le _, rfl⟩
  case round =>
    obtain ⟨k, q, rfl, hk, rfl⟩ := hrel
    by_cases hlt : k < l.length
    · have hlt' : (k : Int) < (l.length : Int) := by omega
      obtain ⟨x, hx⟩ : ∃ x, l[k]? = some x := ⟨l[k], List.getElem?_eq_getElem hlt⟩
      obtain ⟨g, off, rfl, c0⟩ := HV.out.row hx
      obtain ⟨g', off', rfl, d0⟩ := HU.out.row hx
      clear hx
      go_wp2
      go_quiet (fail)
      go_wp2
      exact ⟨⟨k + 1, _, by go_num, by omega, rfl⟩, by simp [intOf]; omega⟩
    · have hlt' : ¬ (k : Int) < (l.length : Int) := by omega
      go_wp2
      go_ret
      exact ⟨rfl, below_drewN (Below.refl _ _) _⟩
theorem tmod_pos (n m : Int) (hm : 0 < m) : -m < n.tmod m ∧ n.tmod m < m := by
  have h1 := Int.tmod_lt_of_pos n hm
  have h2 := Int.lt_tmod_of_pos n hm
  exact ⟨h2, h1⟩
def wiZ (n : Int) (hi : Nat) : Nat := (if n.tmod ((hi : Int) + 1) < 0 then n.tmod ((hi : Int) + 1) + hi + 1 else n.tmod ((hi : Int) + 1)).toNat
theorem wiZ_le (n : Int) (hi : Nat) : wiZ n hi ≤ hi := by
  have hf := tmod_pos n ((hi : Int) + 1) (by omega)
  unfold wiZ
  split <;> omega
theorem within_any (n : Int) (hi : Nat) (hm : hi ≤ 1099511627776) (w : World) :
    Calls Try.prog 15 #[.int .i64 n, .int .i64 0, .int .i64 (hi : Int)] w fun e w' => e = .returned (.int .i64 (wiZ n hi : Int)) ∧ w' = w := by
  have hf := tmod_pos n ((hi : Int) + 1) (by omega)
  obtain ⟨h1, h2⟩ := hf
  have e2 : ¬ (hi : Int) + 1 = 0 := by omega
  have e3 : wiZ n hi = (if n.tmod ((hi : Int) + 1) < 0 then n.tmod ((hi : Int) + 1) + hi + 1 else n.tmod ((hi : Int) + 1)).toNat := rfl
  by_cases hc : n.tmod ((hi : Int) + 1) < 0
  · rw [if_pos hc] at e3
    rw [e3]
    clear e3
    go_enter Try.func15, Try.ntmps15
    go_wp2
    go_ret
    exact ⟨ret_int (by omega), rfl⟩
  · rw [if_neg hc] at e3
    rw [e3]
    clear e3
    go_enter Try.func15, Try.ntmps15
    go_wp2
    go_ret
    exact ⟨ret_int (by omega), rfl⟩
end Go.Proofs.Ytbdeflpjplhafaa.J

