/- A heap whose references lead to objects: what each call does to it. -/
import Derived.Test.YtbdeflpjplhafaaJY
import Derived.Test.YtbdeflpjplhafaaJL
import Derived.Test.YtbdeflpjplhafaaJQ
namespace Go.Proofs.Ytbdeflpjplhafaa.J
open Go.RowKit Go.MapKept Go.ChangeMaps
set_option linter.unusedVariables false

variable {n0 : Nat} {w : World} {p most : Nat} {l : List Ob} {ss : List (List Bool)} {K : List (Nat × Ob)}
theorem RefsOk.nil (ss : List (List Bool)) : RefsOk ss [] := fun p o h => by simp [atN] at h
theorem atN_lt' {l : List Ob} {p : Nat} {o : Ob} (h : atN l p = some o) : p < usedN l := by have := atN_lt l p o h; omega
theorem objZ_snoc_old {l : List Ob} {o : Ob} {x : Int} (h : (objZ l x).isSome = true) : (objZ (l ++ [o]) x).isSome = true := by
  obtain ⟨o', e⟩ := Option.isSome_iff_exists.1 h
  unfold objZ at e ⊢
  split at e
  · rename_i h1
    rw [if_pos h1, atN_snoc, if_pos (atN_lt' e), e]; rfl
  · cases e
theorem RefsOk.snoc (h : RefsOk ss l) {o : Ob} (ho : ∀ (n : Nat) x, o.f[n]? = some x → x = 0) : RefsOk ss (l ++ [o]) := by
  intro p o' e n x hx hr
  rw [atN_snoc] at e
  split at e
  · exact (h p o' e n x hx hr).imp id objZ_snoc_old
  · split at e
    · cases e; exact .inl (ho n x hx)
    · cases e
theorem RefsOk.zeros (h : RefsOk ss l) (s : Int) (k : Nat) : RefsOk ss (l ++ [⟨s, 0, List.replicate k 0⟩]) := h.snoc fun n x hx => by
  rw [List.getElem?_replicate] at hx
  split at hx
  · cases hx; rfl
  · cases hx
theorem objZ_mod (g : Ob → Ob) (hg : ∀ o, (g o).f.length = o.f.length) (l : List Ob) (p : Nat) (x : Int) : (objZ (modN g l p) x).isSome = (objZ l x).isSome := by
  unfold objZ
  split
  · rw [atN_mod g hg]
    split
    · cases atN l _ <;> rfl
    · rfl
  · rfl
theorem RefsOk.mod (h : RefsOk ss l) (g : Ob → Ob) (hg : ∀ o, (g o).f.length = o.f.length) (p : Nat) (hs : ∀ o, atN l p = some o → ∀ (n : Nat) x, (g o).f[n]? = some x → rb ss (g o).sh n = true → x = 0 ∨ (objZ l x).isSome = true) : RefsOk ss (modN g l p) := by
  intro q o' e n x hx hr
  rw [objZ_mod g hg]
  rw [atN_mod g hg] at e
  split at e
  · rename_i e0
    subst e0
    obtain ⟨o, h1, rfl⟩ := Option.map_eq_some_iff.1 e
    exact hs o h1 n x hx hr
  · exact h q o' e n x hx hr
theorem RefsOk.set (h : RefsOk ss l) {v n x : Int} (hn : hasZ l v n = true) (hf : fitZ ss l v n x = true) : RefsOk ss (setL l v n x) := by
  obtain ⟨o0, e0, h0, h1⟩ := hasZ_some hn
  refine h.mod _ (fun o => setF_len _ _ o) _ fun o ho m y hy hr => ?_
  have e1 := objZ_at e0
  rw [e1] at ho
  cases ho
  simp only [setF, List.getElem?_set] at hy
  split at hy
  · rename_i em
    split at hy
    · cases hy
      have hrz : refZ ss l v n = true := by
        have := refZ_rb e0 (n := n.toNat) (ss := ss) (by omega)
        rw [show ((n.toNat : Nat) : Int) = n by omega] at this
        rw [this]
        subst em
        exact hr
      unfold fitZ at hf
      rw [hrz] at hf
      simpa using hf
    · cases hy
  · exact h _ _ e1 m y hy hr
theorem RefsOk.tag (h : RefsOk ss l) (v x : Int) : RefsOk ss (setTagL l v x) :=
  h.mod _ (fun o => setT_len x o) _ fun o ho m y hy hr => h _ _ ho m y hy hr
theorem RefsOk.shape (h : RefsOk ss l) (hw : Wf ss l) (r : List Bool) : RefsOk (addS ss r) l := by
  intro p o e n x hx hr
  refine h p o e n x hx ?_
  obtain ⟨_, h2⟩ := hw p o e
  unfold rb at hr ⊢
  split
  · rename_i hs; rw [if_pos hs] at hr; exact hr
  · rename_i hs
    rw [if_neg hs] at hr
    obtain ⟨s, h3, h4⟩ := h2 (by omega)
    rw [addS_old h3] at hr
    rw [h3]
    exact hr
def Hq (n0 : Nat) (w : World) (p most : Nat) (l : List Ob) (ss : List (List Bool)) : Prop := Hp n0 w p most l ss ∧ RefsOk ss l
theorem Hq.below {w' : World} (h : Hq n0 w p most l ss) (hb : Below w.heap.size w w') : Hq n0 w' p most l ss := ⟨h.1.below hb, h.2⟩
theorem Hq.wf (h : Hq n0 w p most l ss) : Wf ss l := by obtain ⟨⟨H, _, h⟩, _⟩ := h; exact h.wf
theorem hq_new (m : Nat) (h1 : 1 ≤ m) (h2 : m ≤ 16384) (w : World) : Calls Try.prog 18 #[.int .i64 (m : Int)] w fun e w' => ∃ p, e = .returned (.tuple #[.pointer (some ⟨p, 0, none⟩), .int .i64 0]) ∧ Hq w.heap.size w' p m [] [] ∧ Below w.heap.size w w' :=
  (hp_new m h1 h2 w).mono fun e w' ⟨p, e1, e2, e3⟩ => ⟨p, e1, ⟨e2, RefsOk.nil _⟩, e3⟩
theorem hq_array (h : Hq n0 w p most l ss) (refs : Bool) (n : Nat) (hn : n ≤ 256) (hf : usedN l + (n + 3) ≤ most) : Calls Try.prog 22 #[.pointer (some ⟨p, 0, none⟩), .bool refs, .int .i64 (n : Int)] w fun e w' => e = .returned (.tuple #[.int .i64 ((usedN l : Int) + 1), .int .i64 0]) ∧ Hq n0 w' p most (l ++ [⟨arrS refs, 0, List.replicate n 0⟩]) ss ∧ HpS n0 w w' :=
  (hp_array h.1 refs n hn hf).mono fun e w' ⟨e1, e2, e3⟩ => ⟨e1, ⟨e2, h.2.zeros _ _⟩, e3⟩
theorem hq_array_full (h : Hq n0 w p most l ss) (refs : Bool) (n : Nat) (hn : n ≤ 256) (hf : most < usedN l + (n + 3)) : Calls Try.prog 22 #[.pointer (some ⟨p, 0, none⟩), .bool refs, .int .i64 (n : Int)] w fun e w' => e = .returned (.tuple #[.int .i64 0, .int .i64 26]) ∧ Hq n0 w' p most l ss ∧ HpS n0 w w' :=
  (hp_array_full h.1 refs n hn hf).mono fun e w' ⟨e1, e2, e3⟩ => ⟨e1, ⟨e2, h.2⟩, e3⟩
theorem hq_set (h : Hq n0 w p most l ss) (v n x : Int) (hn : hasZ l v n = true) (hf : fitZ ss l v n x = true) : Calls Try.prog 29 #[.pointer (some ⟨p, 0, none⟩), .int .i64 v, .int .i64 n, .int .i64 x] w fun e w' => e = .returned (.int .i64 0) ∧ Hq n0 w' p most (setL l v n x) ss ∧ HpS n0 w w' :=
  (hp_set h.1 v n x hn hf).mono fun e w' ⟨e1, e2, e3⟩ => ⟨e1, ⟨e2, h.2.set hn hf⟩, e3⟩
theorem hq_set_no (h : Hq n0 w p most l ss) (v n x : Int) (hn : hasZ l v n = false) : Calls Try.prog 29 #[.pointer (some ⟨p, 0, none⟩), .int .i64 v, .int .i64 n, .int .i64 x] w fun e w' => e = .returned (.int .i64 1) ∧ w' = w := by
  obtain ⟨⟨H, rfl, h⟩, _⟩ := h
  exact Set_no h v n x hn
theorem hq_set_type (h : Hq n0 w p most l ss) (v n x : Int) (hn : hasZ l v n = true) (hf : fitZ ss l v n x = false) : Calls Try.prog 29 #[.pointer (some ⟨p, 0, none⟩), .int .i64 v, .int .i64 n, .int .i64 x] w fun e w' => e = .returned (.int .i64 20) ∧ w' = w := by
  obtain ⟨⟨H, rfl, h⟩, _⟩ := h
  exact Set_type h v n x hn hf
theorem hq_tag (h : Hq n0 w p most l ss) (v x : Int) (o : Ob) (e : objZ l v = some o) : Calls Try.prog 16 #[.pointer (some ⟨p, 0, none⟩), .int .i64 v, .int .i64 x] w fun e w' => e = .returned (.int .i64 0) ∧ Hq n0 w' p most (setTagL l v x) ss ∧ HpS n0 w w' := by
  obtain ⟨⟨H, rfl, h⟩, hr⟩ := h
  exact (SetTag_yes h v x o e).mono fun e w' ⟨e1, e2, e3⟩ => ⟨e1, ⟨⟨H, rfl, e2⟩, hr.tag v x⟩, HpS.of h e3⟩
theorem hq_tag_no (h : Hq n0 w p most l ss) (v x : Int) (e : objZ l v = none) : Calls Try.prog 16 #[.pointer (some ⟨p, 0, none⟩), .int .i64 v, .int .i64 x] w fun e w' => e = .returned (.int .i64 1) ∧ w' = w := by
  obtain ⟨⟨H, rfl, h⟩, _⟩ := h
  exact SetTag_no h v x e
theorem hq_object (h : Hq n0 w p most l ss) (s : Nat) (r : List Bool) (hr : ss[s]? = some r) (hn : r.length ≤ 100000) (hf : usedN l + (r.length + 3) ≤ most) : Calls Try.prog 24 #[.pointer (some ⟨p, 0, none⟩), .int .i64 (s : Int)] w fun e w' => e = .returned (.tuple #[.int .i64 ((usedN l : Int) + 1), .int .i64 0]) ∧ Hq n0 w' p most (l ++ [⟨(s : Int), 0, List.replicate r.length 0⟩]) ss ∧ HpS n0 w w' :=
  (hp_object h.1 s r hr hn hf).mono fun e w' ⟨e1, e2, e3⟩ => ⟨e1, ⟨e2, h.2.zeros _ _⟩, e3⟩
theorem hq_object_full (h : Hq n0 w p most l ss) (s : Nat) (r : List Bool) (hr : ss[s]? = some r) (hn : r.length ≤ 100000) (hf : most < usedN l + (r.length + 3)) : Calls Try.prog 24 #[.pointer (some ⟨p, 0, none⟩), .int .i64 (s : Int)] w fun e w' => e = .returned (.tuple #[.int .i64 0, .int .i64 26]) ∧ Hq n0 w' p most l ss ∧ HpS n0 w w' := by
  have hlo := h.1.lo
  obtain ⟨⟨H, rfl, h⟩, hr2⟩ := h
  exact (Object_full h s r hr hn hf).mono fun e w' ⟨e1, e2⟩ => ⟨e1, ⟨⟨H, rfl, h.below e2⟩, hr2⟩, HpS.of_below hlo e2⟩
theorem hq_object_bad (h : Hq n0 w p most l ss) (s : Int) (hs : s < 0 ∨ (ss.length : Int) ≤ s) : Calls Try.prog 24 #[.pointer (some ⟨p, 0, none⟩), .int .i64 s] w fun e w' => e = .returned (.tuple #[.int .i64 0, .int .i64 1]) ∧ w' = w := by
  obtain ⟨⟨H, rfl, h⟩, _⟩ := h
  exact Object_bad h s hs
theorem hq_shape (h : Hq n0 w p most l ss) (v : Value) (r : List Bool) (hv : BView w v r) (hr : r.length ≤ 100000) (hs : ss.length ≤ 100000) : Calls Try.prog 20 #[.pointer (some ⟨p, 0, none⟩), v] w fun e w' => e = .returned (.int .i64 (numS ss r : Int)) ∧ Hq n0 w' p most l (addS ss r) ∧ HpS n0 w w' :=
  (hp_shape h.1 v r hv hr hs).mono fun e w' ⟨e1, e2, e3⟩ => ⟨e1, ⟨e2, h.2.shape h.wf r⟩, e3⟩
theorem hq_slide (h : Hq n0 w p most l ss) (hK : KOk l K) {B : Nat} (vk : Value) (hv : NOwn w B vk (keysK K)) :
    Calls Try.prog 33 #[.pointer (some ⟨p, 0, none⟩), vk] w fun e w' => (okK ss K = false ∧ e = .returned (.tuple #[.slice none 0 0, .int .i64 1]) ∧ Hq n0 w' p most l ss ∧ HpS n0 w w') ∨ (okK ss K = true ∧ ∃ v, e = .returned (.tuple #[v, .int .i64 0]) ∧ NOwn w' w.heap.size v (begs 0 (obsK K)) ∧ Hq n0 w' p most (obsM ss K) ss ∧ HpS n0 w w') := by
  have hlo := h.1.lo
  obtain ⟨⟨H, rfl, h⟩, hr⟩ := h
  refine (Slide_any h hr hK vk (KV.of_own h.raw hv)).mono fun e w' he => ?_
  rcases he with ⟨a, b, c⟩ | ⟨a, v, b, H', c, d, f⟩
  · exact .inl ⟨a, b, ⟨⟨H, rfl, h.below c⟩, hr⟩, HpS.of_below hlo c⟩
  · exact .inr ⟨a, v, b, c, ⟨⟨H', f.hb, d⟩, RefsOk.kept a⟩, HpS.of h f⟩
end Go.Proofs.Ytbdeflpjplhafaa.J

