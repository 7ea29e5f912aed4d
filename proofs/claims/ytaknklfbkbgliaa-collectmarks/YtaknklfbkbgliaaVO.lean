/- CollectRoots: what is left of a graph, without Go; lists of tags. -/
import Derived.Test.YtaknklfbkbgliaaVN
import Derived.Test.YtaknklfbkbgliaaVI
namespace Go.Proofs.Ytaknklfbkbgliaa.J
open Go.RowKit Go.MapKept Go.ChangeMaps
set_option linter.unusedVariables false

variable {ss : List (List Bool)} {l : List Ob} {roots : List Int} {K : List (Nat × Ob)} {xs : List Nd}
theorem nodup_le : ∀ (a b : List Int), a.Nodup → (∀ x ∈ a, x ∈ b) → a.length ≤ b.length
  | [], b, _, _ => by simp
  | x :: a, b, hn, hs => by
    have h1 := List.nodup_cons.1 hn
    have h2 := nodup_le a (b.erase x) h1.2 (fun y hy => by
      have hne : y ≠ x := fun e => h1.1 (e ▸ hy)
      exact (List.mem_erase_of_ne hne).2 (hs y (List.mem_cons_of_mem _ hy)))
    have h3 : (b.erase x).length = b.length - 1 := List.length_erase_of_mem (hs x List.mem_cons_self)
    have h4 : 0 < b.length := List.length_pos_of_mem (hs x List.mem_cons_self)
    simp only [List.length_cons]
    omega
theorem nodeL_tag {xs : List Nd} : ∀ (k i : Nat) (o : Ob), k ≤ xs.length → (nodeL xs k)[i]? = some o → o.tag = (i : Int) + 1
  | 0, i, o, _, h => by simp [nodeL] at h
  | k + 1, i, o, hk, h => by
    obtain ⟨x, hx⟩ : ∃ x, xs[k]? = some x := ⟨xs[k], List.getElem?_eq_getElem hk⟩
    rw [nodeL_snoc hx, List.getElem?_append] at h
    split at h
    · exact nodeL_tag k i o (by omega) h
    · rename_i hlt
      rw [nodeL_len (by omega)] at h hlt
      have h0 : i - k = 0 := by have := (List.getElem?_eq_some_iff.1 h).1; simp at this; omega
      rw [h0] at h
      obtain rfl : nodeO k x = o := by simpa using h
      show ((k : Int) + 1) = _
      omega
theorem skel_at {a b : List Ob} (h : skel a = skel b) {i : Nat} {o : Ob} (hi : a[i]? = some o) : ∃ o', b[i]? = some o' ∧ o'.sh = o.sh ∧ o'.tag = o.tag ∧ o'.f.length = o.f.length := by
  have h1 : (skel a)[i]? = some (o.sh, o.tag, o.f.length) := by simp [skel, hi]
  rw [h] at h1
  simp only [skel, List.getElem?_map, Option.map_eq_some_iff] at h1
  obtain ⟨o', e1, e2⟩ := h1
  simp only [Prod.mk.injEq] at e2
  exact ⟨o', e1, e2⟩
theorem graphL_tag {i : Nat} {o : Ob} (h : (graphL xs)[i]? = some o) : o.tag = (i : Int) + 1 := by
  obtain ⟨o', h1, -, h2, -⟩ := skel_at (graphL_skel xs) h
  rw [← h2]
  exact nodeL_tag _ i o' (by omega) h1
theorem kept_tags {i j p q : Nat} {o o' : Ob} (hK : KOk (graphL xs) K) (hi : K[i]? = some (p, o)) (hj : K[j]? = some (q, o')) (h : i < j) : o.tag < o'.tag := by
  have hpq := hK.lt hi hj h
  obtain ⟨a, ha, ea⟩ := atN_nth _ p o (hK.here hi)
  obtain ⟨b, hb, eb⟩ := atN_nth _ q o' (hK.here hj)
  rw [graphL_tag ha, graphL_tag hb]
  rcases Nat.lt_or_ge a b with h1 | h1
  · omega
  · exfalso
    rcases Nat.lt_or_ge b a with h2 | h2
    · have := usedN_lt hb ha h2
      omega
    · obtain rfl : a = b := by omega
      omega
theorem mvO_tag (ss : List (List Bool)) (K : List (Nat × Ob)) (o : Ob) : (mvO ss K o).tag = o.tag ∧ (mvO ss K o).sh = o.sh := ⟨rfl, rfl⟩
/-- A root, where it is then. -/
theorem root_moved (h : RchK ss l roots K) (hr : ∀ x ∈ roots, x = 0 ∨ (objZ l x).isSome = true) {x : Int} (hx : x ∈ roots) : tagZ (obsM ss K) (toA 0 K x.toNat) = tagZ l x ∧ (toA 0 K x.toNat == 0) = (x == 0) := by
  by_cases h0 : x = 0
  · subst h0
    rw [show (0 : Int).toNat = 0 from rfl, toA_zero l]
    exact ⟨by simp [tagZ, objZ], rfl⟩
  · have hk := (h.iff x).2 (.root hx h0)
    have hp := toA_in K 0 x hk
    obtain ⟨i, p, o, h1, h2, h3⟩ := toA_mem K 0 x.toNat (by omega)
    have hx1 := (objZ_in (h.ok.obj h1)).1
    have he : x = (p : Int) + 1 := by omega
    rw [h3, Nat.zero_add, ← usedN_obsM ss K]
    refine ⟨?_, by rw [show (x == 0) = false by simpa using h0]; exact beq_eq_false_iff_ne.2 (by omega)⟩
    unfold tagZ
    rw [objZ_nth (obsM_at h1), he, h.ok.obj h1]
    rfl
theorem rootV_ok (l : List Ob) (x : Int) : rootB l (rootV (begs 0 l) x) = true := by
  rw [rootB_iff]
  unfold rootV
  split
  · exact .inl rfl
  · rename_i h
    have hl : x.toNat % (begs 0 l).length < (begs 0 l).length := Nat.mod_lt _ (by omega)
    have hl2 : x.toNat % (begs 0 l).length < l.length := by rw [begs_len] at hl ⊢; exact hl
    rw [begs_at l 0 _ hl2, Nat.zero_add]
    right
    simp only [Option.getD_some]
    rw [objZ_nth (List.getElem?_eq_getElem hl2)]
    rfl
theorem rootsL_ok (r : List Int) (l : List Ob) : (rootsL r (begs 0 l)).all (rootB l) = true := by
  rw [List.all_eq_true]
  intro x hx
  unfold rootsL rootsT at hx
  obtain ⟨y, _, rfl⟩ := List.mem_map.1 hx
  exact rootV_ok l y
theorem rootsL_len (r refs : List Int) : (rootsL r refs).length ≤ 12 := by
  have := rootsT_len r refs (min r.length 12)
  unfold rootsL; omega
theorem obsM_len' (ss : List (List Bool)) (K : List (Nat × Ob)) : (obsM ss K).length = K.length := obsM_len ss K
/-- A list of tags in a row of one's own. -/
theorem Try.infoI8b : (Try.prog.info? 2).map (fun i => (i.zero, i.size, i.bytes)) = some (some (.int .i64 0), 1, 8) := by kernel_rfl
theorem wpList_tappend {w : World} {ops : Array Oper} {rest : List Oper} {o : Oper} {a : Act} {Q : Exit → Act → World → Prop} (hgd : o.guard = none) (s x : Operand)
    (ho : o.op = .call { callee := .builtin .append, args := #[s, x], argTypes := #[80, 80] })
    (B : Nat) (v : Value) (l : List Int) (y : Int) (hown : w.ownsRow B 2 1 v l.length (icells l)) (hs : a.eval s = v) (hx : a.eval x = .slice (some ⟨w.heap.size, 0, none⟩) 1 1)
    (hlen : l.length ≤ 10000000000000) (hB : B ≤ w.heap.size)
    (h : ∀ ao' cap' w', w'.ownsRow B 2 1 (.slice ao' (l.length + 1) cap') (l ++ [y]).length (icells (l ++ [y])) → Step v (w.alloc (.cells #[.int .i64 y] 2)) (.slice ao' (l.length + 1) cap') w' → wpList Try.prog ops Q rest (a.put o.dst (.slice ao' (l.length + 1) cap')) w') :
    wpList Try.prog ops Q (o :: rest) a (w.alloc (.cells #[.int .i64 y] 2)) := by
  obtain ⟨i0, hi, hz0, hz1, hz2⟩ := info_parts Try.infoI8b
  refine wpList_plain hgd fun K hK => ?_
  have hown' : (w.alloc (.cells #[.int .i64 y] 2)).ownsRow B 2 1 v l.length (icells l) := own_below hown (balloc w _)
  obtain ⟨v', w', hr, h2, h3, _, h4⟩ := run_append_own_at (P := Try.prog) (w.alloc (.cells #[.int .i64 y] 2)) B 80 o.type 2 i0 (.int .i64 0) 1 8 Try.underlying80 hi hz0 hz1 hz2 rfl (by decide) v l.length (icells l) hown' ⟨w.heap.size, 0, none⟩ 1 1 [.int .i64 y] rfl
    (fun j u hj => by
      have e : (⟨w.heap.size, 0, none⟩ : Addr).add j = ⟨w.heap.size, j, none⟩ := by unfold Addr.add; split <;> simp_all
      rw [e]
      have := (Blk.new w #[.int .i64 y] 2).cell j
      rw [this]
      simpa using hj) (icells_one [y]) (by unfold maxLen; omega) (by omega) (by simp; omega)
  unfold Oper.wp execOp
  simp only [ho, resolve, invoke, builtin, Sem.run_bind, Sem.run_pure, Result.andThen_ok, List.map_toArray, List.map_cons, List.map_nil, hs, hx, hr]
  obtain ⟨ao', cap', rfl⟩ := own_slice h2
  refine hK _ _ (h ao' cap' w' ?_ ⟨h3, h4.imp id fun e => ⟨_, e, Nat.le_refl _⟩⟩)
  rw [show icells (l ++ [y]) = icells l ++ [.int .i64 y] by simp [icells], List.length_append]
  exact h2
end Go.Proofs.Ytaknklfbkbgliaa.J
