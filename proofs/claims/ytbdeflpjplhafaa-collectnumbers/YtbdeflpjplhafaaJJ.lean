/- All: walked. -/
import Derived.Test.YtbdeflpjplhafaaJI
namespace Go.Proofs.Ytbdeflpjplhafaa.J
open Go.RowKit Go.MapKept Go.ChangeMaps
set_option linter.unusedVariables false

variable {n0 : Nat} {w : World} {H : HB} {most : Nat} {l : List Ob} {ss : List (List Bool)}
/-- Where objects begin. -/
def begs : Nat → List Ob → List Int
  | _, [] => []
  | p, o :: l => ((p : Int) + 1) :: begs (p + (o.f.length + 3)) l
theorem begs_len : ∀ (l : List Ob) (p : Nat), (begs p l).length = l.length
  | [], p => rfl
  | o :: l, p => by simp [begs, begs_len l]
theorem begs_append : ∀ (a b : List Ob) (p : Nat), begs p (a ++ b) = begs p a ++ begs (p + usedN a) b
  | [], b, p => by simp [begs, usedN]
  | o :: a, b, p => by
    simp only [List.cons_append, begs, begs_append a b, usedN]
    rw [show p + (o.f.length + 3) + usedN a = p + (o.f.length + 3 + usedN a) by omega]
theorem begs_at : ∀ (l : List Ob) (p k : Nat), k < l.length → (begs p l)[k]? = some (((p + usedN (l.take k) : Nat) : Int) + 1)
  | [], p, k, h => by simp at h
  | o :: l, p, 0, h => by simp [begs, usedN]
  | o :: l, p, k + 1, h => by
    simp only [begs, List.getElem?_cons_succ, List.take_succ_cons, usedN]
    rw [begs_at l _ k (by simpa using h)]
    congr 2
    omega
theorem atN_take : ∀ (l : List Ob) (k : Nat) (o : Ob), l[k]? = some o → atN l (usedN (l.take k)) = some o
  | [], k, o, h => by simp at h
  | x :: l, 0, o, h => by simpa [usedN, atN] using h
  | x :: l, k + 1, o, h => by
    simp only [List.take_succ_cons, usedN, atN]
    rw [if_neg (by omega), if_neg (by omega), show x.f.length + 3 + usedN (l.take k) - (x.f.length + 3) = usedN (l.take k) by omega]
    exact atN_take l k o (by simpa using h)
theorem usedN_take : ∀ (l : List Ob) (k : Nat) (o : Ob), l[k]? = some o → usedN (l.take (k + 1)) = usedN (l.take k) + (o.f.length + 3) ∧ usedN (l.take (k + 1)) ≤ usedN l
  | [], k, o, h => by simp at h
  | x :: l, 0, o, h => by
    obtain rfl : x = o := by simpa using h
    simp [usedN]
  | x :: l, k + 1, o, h => by
    obtain ⟨h1, h2⟩ := usedN_take l k o (by simpa using h)
    simp only [List.take_succ_cons, usedN] at h1 h2 ⊢
    omega
theorem take_snoc {α : Type} {l : List α} {k : Nat} {o : α} (h : l[k]? = some o) : l.take (k + 1) = l.take k ++ [o] := by
  rw [List.take_add_one, h]; rfl
theorem objZ_nth {l : List Ob} {k : Nat} {o : Ob} (h : l[k]? = some o) : objZ l ((usedN (l.take k) : Int) + 1) = some o := by
  unfold objZ
  rw [if_pos (by omega), show ((usedN (l.take k) : Int) + 1 - 1).toNat = usedN (l.take k) by omega]
  exact atN_take l k o h
theorem usedN_ge : ∀ l : List Ob, l.length * 3 ≤ usedN l
  | [] => by simp
  | o :: l => by have := usedN_ge l; simp [usedN]; omega
theorem begs_take_snoc {l : List Ob} {k : Nat} {o : Ob} (h : l[k]? = some o) : begs 0 (l.take (k + 1)) = begs 0 (l.take k) ++ [(usedN (l.take k) : Int) + 1] := by
  rw [take_snoc h, begs_append]; simp [begs]
set_option maxRecDepth 8000 in
set_option maxHeartbeats 2000000 in
theorem All_any (h : HeapV n0 w H most l ss) : Calls Try.prog 14 #[H.ptr] w fun e w' => ∃ v', e = .returned v' ∧ NOwn w' w.heap.size v' (begs 0 l) ∧ Below w.heap.size w w' := by
  have HH := hidIt h
  have hm : usedN l ≤ 16384 := Nat.le_trans h.few h.most
  have hge := usedN_ge l
  clear h
  have GU : Hid (∀ W, Below w.heap.size w W → Calls Try.prog 11 #[H.ptr] W fun e w' => e = .returned (.int .i64 (usedN l)) ∧ w' = W) := hidIt (fun W hb => used_any (HH.out.below hb))
  have GL : Hid (∀ W v, Below w.heap.size w W → Calls Try.prog 35 #[H.ptr, .int .i64 v] W fun e w' => e = .returned (.int .i64 (lenZ l v)) ∧ w' = W) := hidIt (fun W v hb => Len_any (HH.out.below hb) v)
  clear HH
  unfold HB.ptr at *
  generalize hU : usedN l = U at *
  have HU := hidIt hU
  clear hU
  go_enter Try.func14, Try.ntmps14
  go_wp2_with fail
  go_loopw [3, 4] (fun o i wr => ∃ (k : Nat), k ≤ l.length ∧ i = .int .i64 ((usedN (l.take k) : Int) + 1) ∧ NOwn wr w.heap.size o (begs 0 (l.take k)) ∧ Below w.heap.size w wr) (fun _ i _ => U + 1 - (intOf i).toNat)
  case atStart => exact ⟨0, Nat.zero_le _, rfl, NOwn.nil _ _, Below.refl _ _⟩
  case round =>
    obtain ⟨k, hk, rfl, ho, hb⟩ := hrel
    have HO := hidIt ho
    have HB := hidIt hb
    obtain ⟨ao, cap, rfl⟩ := own_slice ho
    clear ho hb
    have hz : w.heap.size ≤ wr.heap.size := HB.out.size
    by_cases hlt : k < l.length
    · obtain ⟨o, ho⟩ : ∃ o, l[k]? = some o := ⟨l[k], List.getElem?_eq_getElem hlt⟩
      obtain ⟨u1, u2⟩ := usedN_take l k o ho
      rw [HU.out] at u2
      have eL : lenZ l ((usedN (l.take k) : Int) + 1) = o.f.length := by unfold lenZ; rw [objZ_nth ho]
      have NX : Hid (∀ (W : World) (v : Value), NOwn W w.heap.size v (begs 0 (l.take k) ++ [(usedN (l.take k) : Int) + 1]) → Below w.heap.size w W → ∃ k', k' ≤ l.length ∧ Value.int .i64 ((usedN (l.take k) : Int) + 1 + (3 + (o.f.length : Int))) = .int .i64 ((usedN (l.take k') : Int) + 1) ∧ NOwn W w.heap.size v (begs 0 (l.take k')) ∧ Below w.heap.size w W) := hidIt (fun W v h1 h2 => ⟨k + 1, by omega, by rw [u1]; go_num, by rw [begs_take_snoc ho]; exact h1, h2⟩)
      have hln : (begs 0 (l.take k)).length ≤ 100000 := by rw [begs_len, List.length_take]; omega
      have GU2 := hidIt (GU.out wr HB.out)
      clear ho GU
      have e1 : usedN (l.take k) + (o.f.length + 3) ≤ U := by omega
      clear u1 u2
      generalize begs 0 (l.take k) = acc at *
      generalize usedN (l.take k) = p at *
      generalize o.f.length = n at *
      have hc : ((p : Int) + 1) ≤ (U : Int) := by omega
      have hUm : (U : Int) ≤ 16384 := by omega
      go_wp2_with (first | (go_at_call 11; refine GU2.out.mono ?_; rintro e w' ⟨rfl, hww⟩; cases hww) | (at_builtin; refine wpList_nappend rfl _ _ rfl w.heap.size _ _ _ HO.out rfl rfl (by omega) hz ?_; intro ao3 cap3 w2 ho2 st2; have HB2 := hidIt ((HB.out.trans ((balloc _ _).mono hz)).trans (st2.below (Nat.le_trans hz (balloc _ _).size) (fun k hk => (HO.out.lt k hk).1))); have HO2 := hidIt ho2; clear ho2 st2; have GL2 := hidIt (GL.out w2 ((p : Int) + 1) HB2.out); rw [eL] at GL2; clear GL) | (go_at_call 35; refine GL2.out.mono ?_; rintro e w' ⟨rfl, hww⟩; cases hww))
      exact ⟨NX.out _ _ HO2.out HB2.out, by simp [intOf]; omega⟩
    · have hlt' : k = l.length := by omega
      subst hlt'
      rw [List.take_length, HU.out] at *
      have GU2 := hidIt (GU.out wr HB.out)
      clear GU GL
      go_wp2_with (go_at_call 11; refine GU2.out.mono ?_; rintro e w' ⟨rfl, hww⟩; cases hww)
      go_ret
      exact ⟨_, rfl, HO.out, HB.out⟩
end Go.Proofs.Ytbdeflpjplhafaa.J

