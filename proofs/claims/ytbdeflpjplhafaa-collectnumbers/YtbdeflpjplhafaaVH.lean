/- Maps of numbers; moved of package collect: walked. -/
import Derived.Test.YtbdeflpjplhafaaVE
import Derived.Test.YtbdeflpjplhafaaJO
namespace Go.Proofs.Ytbdeflpjplhafaa.J
open Go.RowKit Go.MapKept Go.ChangeMaps
set_option linter.unusedVariables false

def IMap (w : World) (b : Nat) (l : List (Int × Int)) : Prop :=
  ∃ es clock, w.heap[b]? = some (.map es clock) ∧ es.toList.map (fun e => (e.key, e.val)) = l.map (fun p => (Value.int .i64 p.1, Value.int .i64 p.2))
def ilook : List (Int × Int) → Int → Option Int
  | [], _ => none
  | p :: l, x => if x == p.1 then some p.2 else ilook l x
theorem findNow_int (x : Int) : ∀ (es : List MapEntry) (l : List (Int × Int)) (i : Nat), es.map (fun e => (e.key, e.val)) = l.map (fun p => (Value.int .i64 p.1, Value.int .i64 p.2)) →
    (ilook l x = none → Instr.findNow (.int .i64) (.int .i64 x) es i = some none) ∧ (∀ v, ilook l x = some v → ∃ j, Instr.findNow (.int .i64) (.int .i64 x) es i = some (some (j, .int .i64 v)))
  | [], [], i, _ => ⟨fun _ => rfl, fun v h => by simp [ilook] at h⟩
  | [], p :: l, i, h => by simp at h
  | e :: es, [], i, h => by simp at h
  | e :: es, p :: l, i, h => by
    simp only [List.map_cons, List.cons.injEq, Prod.mk.injEq] at h
    obtain ⟨⟨h1, h2⟩, h3⟩ := h
    obtain ⟨a, b⟩ := findNow_int x es l (i + 1) h3
    unfold ilook Instr.findNow
    rw [h1]
    cases hs : x == p.1
    · simp only [Instr.sameNow, hs, if_true]
      exact ⟨a, b⟩
    · simp only [Instr.sameNow, hs, if_true]
      exact ⟨fun h => by simp at h, fun v h => ⟨i, by rw [h2]; simpa using h⟩⟩
theorem check_int {P : Program} {k : TypeId} (hk : P.underlying k = some (.int .i64)) (e : Bool) (n : Nat) (s : Int) (w : World) : (Instr.checkKey e (n + 1) k (.int .i64 s)).run P w = .ok () w := by
  simp [Instr.checkKey, run_underlying hk, Result.andThen]
theorem IMap.look2 {P : Program} {w : World} {b : Nat} {l : List (Int × Int)} {t k e : TypeId} (h : IMap w b l) (ht : P.underlying t = some (.map k e)) (hk : P.underlying k = some (.int .i64))
    (hz : (zeroValue e).run P w = .ok (.int .i64 0) w) (s : Int) : (Instr.lookup t (.map (some b)) (.int .i64 s) true).run P w = .ok (.tuple #[.int .i64 ((ilook l s).getD 0), .bool (ilook l s).isSome]) w := by
  obtain ⟨es, clock, hb, he⟩ := h
  obtain ⟨f1, f2⟩ := findNow_int s es.toList l 0 he
  cases hs : ilook l s with
  | none => simp [Instr.lookup, run_underlying ht, MapKept.run_getObj_map hb, check_int hk _ 9999, run_underlying hk, Instr.findKey, f1 hs, hz, Result.andThen]
  | some v =>
    obtain ⟨j, f3⟩ := f2 v hs
    simp [Instr.lookup, run_underlying ht, MapKept.run_getObj_map hb, check_int hk _ 9999, run_underlying hk, Instr.findKey, f3, Result.andThen]
theorem IMap.look1 {P : Program} {w : World} {b : Nat} {l : List (Int × Int)} {t k e : TypeId} (h : IMap w b l) (ht : P.underlying t = some (.map k e)) (hk : P.underlying k = some (.int .i64))
    (hz : (zeroValue e).run P w = .ok (.int .i64 0) w) (s : Int) : (Instr.lookup t (.map (some b)) (.int .i64 s) false).run P w = .ok (.int .i64 ((ilook l s).getD 0)) w := by
  obtain ⟨es, clock, hb, he⟩ := h
  obtain ⟨f1, f2⟩ := findNow_int s es.toList l 0 he
  cases hs : ilook l s with
  | none => simp [Instr.lookup, run_underlying ht, MapKept.run_getObj_map hb, check_int hk _ 9999, run_underlying hk, Instr.findKey, f1 hs, hz, Result.andThen]
  | some v =>
    obtain ⟨j, f3⟩ := f2 v hs
    simp [Instr.lookup, run_underlying ht, MapKept.run_getObj_map hb, check_int hk _ 9999, run_underlying hk, Instr.findKey, f3, Result.andThen]
theorem IMap.put {P : Program} {w : World} {b : Nat} {l : List (Int × Int)} {t k e : TypeId} (h : IMap w b l) (ht : P.underlying t = some (.map k e)) (hk : P.underlying k = some (.int .i64))
    (s v : Int) (hs : ilook l s = none) : ∃ es clock, (Instr.mapUpdate t (.map (some b)) (.int .i64 s) (.int .i64 v)).run P w = .ok () (setBlock w b (.map es clock)) ∧ IMap (setBlock w b (.map es clock)) b (l ++ [(s, v)]) := by
  obtain ⟨es, clock, hb, he⟩ := h
  obtain ⟨f1, f2⟩ := findNow_int s es.toList l 0 he
  refine ⟨es.push ⟨.int .i64 s, .int .i64 v, clock⟩, clock + 1, ?_, ?_⟩
  · simp [Instr.mapUpdate, run_underlying ht, MapKept.run_getObj_map hb, check_int hk _ 9999, run_underlying hk, Instr.findKey, f1 hs, MapKept.run_setObj_map _ hb, Result.andThen, setBlock]
  · refine ⟨es.push ⟨.int .i64 s, .int .i64 v, clock⟩, clock + 1, ?_, ?_⟩
    · have := (Array.getElem?_eq_some_iff.1 hb).1
      simp [setBlock, this]
    · simp [he]
theorem IMap.kept {w w' : World} {b : Nat} {l : List (Int × Int)} (h : IMap w b l) (hb : w'.heap[b]? = w.heap[b]?) : IMap w' b l := by
  obtain ⟨es, clock, h1, h2⟩ := h
  exact ⟨es, clock, hb.trans h1, h2⟩
theorem IMap.lt {w : World} {b : Nat} {l : List (Int × Int)} (h : IMap w b l) : b < w.heap.size := by
  obtain ⟨es, clock, h1, _⟩ := h
  exact (Array.getElem?_eq_some_iff.1 h1).1
theorem IMap.new (w : World) : IMap (w.alloc (.map #[] 0)) w.heap.size [] := ⟨#[], 0, heap_alloc_new w _, rfl⟩
theorem own_notI {w : World} {B : Nat} {e : TypeId} {k : Nat} {v : Value} {n : Nat} {xs : List Value} (h : w.ownsRow B e k v n xs) {b : Nat} {l : List (Int × Int)} (hb : IMap w b l) : v.ownBlock ≠ some b := fun eb => by
  obtain ⟨c, fz, h'⟩ := Lib.ownsRow_kind h b eb
  obtain ⟨es, cl, hm, _⟩ := hb
  rw [hm] at h'
  cases h'
theorem below_setBlock {B : Nat} {w W : World} (h : Below B w W) {b : Nat} (hb : B ≤ b) (o : Obj) : Below B w (setBlock W b o) :=
  ⟨h.os, h.tape, h.output, by have := h.size; simpa [setBlock] using this, fun k hk => (setBlock_other W b k o (by omega)).trans (h.block k hk)⟩

def entsK : Nat → List (Nat × Ob) → List (Int × Int)
  | _, [] => []
  | q, (p, o) :: K => ((p : Int) + 1, (q : Int) + 1) :: entsK (q + (o.f.length + 3)) K
theorem entsK_len : ∀ (K : List (Nat × Ob)) (q : Nat), (entsK q K).length = K.length
  | [], q => rfl
  | (p, o) :: K, q => by simp [entsK, entsK_len K]
theorem entsK_at : ∀ (K : List (Nat × Ob)) (q i p : Nat) (o : Ob), K[i]? = some (p, o) → (entsK q K)[i]? = some ((p : Int) + 1, ((q + usedN ((obsK K).take i) : Nat) : Int) + 1)
  | [], q, i, p, o, h => by simp at h
  | (p', o') :: K, q, 0, p, o, h => by
    simp only [List.getElem?_cons_zero, Option.some.injEq, Prod.mk.injEq] at h
    obtain ⟨rfl, rfl⟩ := h
    simp [entsK, usedN]
  | (p', o') :: K, q, i + 1, p, o, h => by
    simp only [entsK, List.getElem?_cons_succ]
    rw [entsK_at K _ i p o (by simpa using h)]
    simp only [obsK, List.map_cons, List.take_succ_cons, usedN]
    rw [show q + (o'.f.length + 3) + usedN ((List.map (·.2) K).take i) = q + (o'.f.length + 3 + usedN ((List.map (·.2) K).take i)) by omega]
theorem ilook_ents : ∀ (K : List (Nat × Ob)) (q : Nat) (x : Int), 0 ≤ x → (ilook (entsK q K) x).getD 0 = toA q K x.toNat
  | [], q, x, h => rfl
  | (p, o) :: K, q, x, h => by
    unfold entsK ilook toA
    by_cases e : p + 1 = x.toNat
    · have : (x == (p : Int) + 1) = true := by simp; omega
      rw [if_pos e, if_pos this]; rfl
    · have : ¬ (x == (p : Int) + 1) = true := by simp; omega
      rw [if_neg e, if_neg this]
      exact ilook_ents K _ x h
theorem ilook_none : ∀ (l : List (Int × Int)) (x : Int), (∀ p ∈ l, p.1 ≠ x) → ilook l x = none
  | [], x, h => rfl
  | p :: l, x, h => by
    unfold ilook
    have := h p List.mem_cons_self
    rw [if_neg (by simpa using this.symm)]
    exact ilook_none l x fun q hq => h q (List.mem_cons_of_mem _ hq)
variable {w W : World} {l : List Ob} {K : List (Nat × Ob)} {roots : List Int}
theorem KOk.fresh (h : KOk l K) {k p : Nat} {o : Ob} (hx : K[k]? = some (p, o)) : ilook ((entsK 0 K).take k) ((p : Int) + 1) = none := by
  refine ilook_none _ _ fun y hy e => ?_
  obtain ⟨i, hi⟩ := List.getElem?_of_mem hy
  rw [List.getElem?_take] at hi
  split at hi
  · rename_i hlt
    have hl := (List.getElem?_eq_some_iff.1 hi).1
    rw [entsK_len] at hl
    obtain ⟨⟨p', o'⟩, hx'⟩ : ∃ x, K[i]? = some x := ⟨K[i], List.getElem?_eq_getElem hl⟩
    rw [entsK_at K 0 i p' o' hx'] at hi
    cases hi
    have := h.lt hx' hx hlt
    simp only at e
    omega
  · cases hi
/-- Where roots are then. -/
def movedL (K : List (Nat × Ob)) (roots : List Int) : List Int := roots.map fun x => toA 0 K x.toNat
set_option maxRecDepth 8000 in
set_option maxHeartbeats 2000000 in
theorem moved_any (hK : KOk l K) (hu : usedN l ≤ 16384) (vr vk vn : Value) (hr : NView w vr roots) (hk : NView w vk (keysK K)) (hn : NView w vn (begs 0 (obsK K))) (hrl : roots.length ≤ 10000000000000) (h0 : ∀ x ∈ roots, 0 ≤ x) :
    Calls Try.prog 34 #[vr, vk, vn] w fun e w' => ∃ v, e = .returned v ∧ NOwn w' w.heap.size v (movedL K roots) ∧ Below w.heap.size w w' := by
  have HR := hidIt hr
  have HKv := hidIt hk
  have HN := hidIt hn
  have HK := hidIt hK
  obtain ⟨ar, cr, rfl, hcr, hmr, _⟩ := hr
  obtain ⟨ak, ck, rfl, hck, hmk, _⟩ := hk
  obtain ⟨an, cn, rfl, hcn, hmn, _⟩ := hn
  have hkl : (keysK K).length = K.length := keysK_len K
  have hnl : (begs 0 (obsK K)).length = K.length := by rw [begs_len, obsK_len]
  have hkl' := hidIt hkl
  have hnl' := hidIt hnl
  rw [hkl] at hck ⊢
  rw [hnl] at hcn ⊢
  unfold maxLen at *
  have H0 := hidIt h0
  have hmm := @run_makeMap Try.prog
  have hKc : K.length ≤ 16384 := by have := usedN_ge (obsK K); rw [obsK_len] at this; have := hK.within; omega
  clear hK h0 hkl hnl
  go_enter Try.func34, Try.ntmps34
  go_wp2_with fail
  clear hmm
  have IM0 : Hid (IMap (w.alloc (.map #[] 0)) w.heap.size ((entsK 0 K).take 0)) := hidIt (IMap.new w)
  have HB0 : Hid (Below w.heap.size w (w.alloc (.map #[] 0))) := hidIt (balloc w _)
  go_loopw [16] (fun jv wr => ∃ k : Nat, k ≤ K.length ∧ jv = .int .i64 (k : Int) ∧ IMap wr w.heap.size ((entsK 0 K).take k) ∧ Below w.heap.size w wr) (fun jv _ => K.length - (intOf jv).toNat)
  case atStart => exact ⟨0, Nat.zero_le _, rfl, IM0.out, HB0.out⟩
  case round =>
    clear IM0 HB0
    obtain ⟨k, hk, rfl, im, hb⟩ := hrel
    by_cases hlt : k < K.length
    · have hlt' : (k : Int) < (K.length : Int) := by omega
      obtain ⟨⟨p, o⟩, hx⟩ : ∃ x, K[k]? = some x := ⟨K[k], List.getElem?_eq_getElem hlt⟩
      have hvv := HKv.out.below hb
      rw [hkl'.out] at hvv
      obtain ⟨g, off, rfl, c0⟩ := hvv.row (keysK_at hx)
      have hbg := begs_at (obsK K) 0 k (by rw [obsK_len]; exact hlt)
      rw [Nat.zero_add] at hbg
      have hnn := HN.out.below hb
      rw [hnl'.out] at hnn
      obtain ⟨g2, off2, rfl, c1⟩ := hnn.row hbg
      obtain ⟨es, clk, hput, IM⟩ := im.put Try.underlying74 Try.underlying3 ((p : Int) + 1) ((usedN ((obsK K).take k) : Int) + 1) (HK.out.fresh hx)
      have ht := take_snoc (entsK_at K 0 k p o hx)
      rw [Nat.zero_add] at ht
      rw [← ht] at IM
      have IM2 := hidIt IM
      have HB2 := hidIt (below_setBlock hb (Nat.le_refl _) (.map es clk))
      clear hx hvv hbg hnn ht IM im hb
      generalize (usedN ((obsK K).take k) : Int) + 1 = y at *
      generalize setBlock wr w.heap.size (.map es clk) = W2 at *
      go_wp2_with fail
      exact ⟨⟨k + 1, by omega, by go_num, IM2.out, HB2.out⟩, by simp [intOf]; omega⟩
    · have hlt' : ¬ (k : Int) < (K.length : Int) := by omega
      obtain rfl : k = K.length := by omega
      rw [show (entsK 0 K).take K.length = entsK 0 K by rw [← entsK_len K 0, List.take_length]] at im
      have IM := hidIt im
      have HB := hidIt hb
      clear im hb
      go_wp2_with fail
      obtain ⟨V, hV⟩ : ∃ V, V = wr := ⟨wr, rfl⟩
      subst hV
      go_loopw [10, 30] (fun ov jv wr => ∃ k : Nat, k ≤ roots.length ∧ jv = .int .i64 (k : Int) ∧ NOwn wr V.heap.size ov (movedL K (roots.take k)) ∧ Below V.heap.size V wr) (fun _ jv _ => roots.length - (intOf jv).toNat)
      case atStart => exact ⟨0, Nat.zero_le _, rfl, NOwn.nil _ _, Below.refl _ _⟩
      case round =>
        obtain ⟨k, hk, rfl, ho, hb⟩ := hrel
        have HO := hidIt ho
        have HB2 := hidIt hb
        obtain ⟨ao3, cap3, rfl⟩ := own_slice ho
        have hz : V.heap.size ≤ wr.heap.size := hb.size
        by_cases hlt : k < roots.length
        · have hlt' : (k : Int) < (roots.length : Int) := by omega
          obtain ⟨x, hx⟩ : ∃ x, roots[k]? = some x := ⟨roots[k], List.getElem?_eq_getElem hlt⟩
          obtain ⟨g, off, rfl, c0⟩ := ((HR.out.below HB.out).below hb).row hx
          have hlk := ((IM.out.kept (hb.block _ IM.out.lt)).look1 Try.underlying74 Try.underlying3 (zero_int _) x)
          rw [ilook_ents K 0 x (H0.out x (List.mem_of_getElem? hx))] at hlk
          have NX : Hid (∀ W v, NOwn W V.heap.size v (movedL K (roots.take k) ++ [toA 0 K x.toNat]) → NOwn W V.heap.size v (movedL K (roots.take (k + 1)))) := hidIt (fun W v h => by
            rw [take_snoc hx]
            unfold movedL at h ⊢
            rw [List.map_append]
            exact h)
          have hll : (movedL K (roots.take k)).length ≤ 10000000000000 := by simp [movedL]; omega
          clear hx ho hb
          generalize toA 0 K x.toNat = y at *
          generalize movedL K (roots.take k) = acc at *
          go_wp2_with (at_builtin; refine wpList_nappend rfl _ _ rfl V.heap.size _ _ _ HO.out rfl rfl (by omega) hz ?_; intro ao4 cap4 w2 ho2 st2; have HB3 := hidIt ((HB2.out.trans ((balloc _ _).mono hz)).trans (st2.below (Nat.le_trans hz (balloc _ _).size) (fun k hk => (HO.out.lt k hk).1))); have HO2 := hidIt (NX.out _ _ ho2); clear ho2 st2)
          exact ⟨⟨k + 1, by omega, by go_num, HO2.out, HB3.out⟩, by simp [intOf]; omega⟩
        · have hlt' : ¬ (k : Int) < (roots.length : Int) := by omega
          obtain rfl : k = roots.length := by omega
          rw [List.take_length] at *
          clear ho hb
          go_wp2_with fail
          go_ret
          exact ⟨_, rfl, own_wk HO.out HB.out.size, HB.out.trans (HB2.out.mono HB.out.size)⟩
end Go.Proofs.Ytbdeflpjplhafaa.J

