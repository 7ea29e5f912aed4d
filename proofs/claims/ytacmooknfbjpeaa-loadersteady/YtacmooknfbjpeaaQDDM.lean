/- Descriptors as lists of bytes: how long a name or a field is that a text begins with, and how a method's text is taken apart. -/
import Derived.Test.YtacmooknfbjpeaaProg
import Derived.WalkKit
import Derived.WalkSpells
import Derived.WalkLawsBesides
import Derived.Maps.AppendAt
import Derived.WalkMore
import Derived.Lib.Strings
namespace Go.Proofs.Ytacmooknfbjpeaa.Q.D
open Go.RowKit
abbrev Bs := List UInt8
def isL (c : UInt8) : Bool := decide (97 ≤ c.toNat ∧ c.toNat ≤ 122 ∨ 65 ≤ c.toNat ∧ c.toNat ≤ 90 ∨ c.toNat = 95 ∨ c.toNat = 36)
def isD (c : UInt8) : Bool := decide (48 ≤ c.toNat ∧ c.toNat ≤ 57)
def okc (k : Nat) (c : UInt8) : Bool := isL c || (isD c && decide (0 < k))

def isName (l : Bs) : Prop := 1 ≤ l.length ∧ l.length ≤ 64 ∧ ∀ j c, l[j]? = some c → okc j c = true

def nlA : Nat → Nat → Bs → Nat
  | 0, _, _ => 0
  | _ + 1, _, [] => 0
  | m + 1, k, c :: t => if okc k c then nlA m (k + 1) t + 1 else 0
def nl (l : Bs) : Nat := nlA 64 0 l

theorem nlA_char : ∀ (m k : Nat) (l : Bs) (n : Nat), n ≤ m → (∀ j, j < n → ∃ c, l[j]? = some c ∧ okc (k + j) c = true) →
    (n = m ∨ ∀ c, l[n]? = some c → okc (k + n) c = false) → nlA m k l = n := by
  intro m
  induction m with
  | zero => intro k l n h _ _; simp [nlA]; omega
  | succ m ih =>
    intro k l n hn hok hst
    cases l with
    | nil =>
      simp only [nlA]
      cases n with
      | zero => rfl
      | succ n => obtain ⟨c, h, _⟩ := hok 0 (by omega); simp at h
    | cons c t =>
      simp only [nlA]
      cases n with
      | zero =>
        rcases hst with h | h
        · omega
        · have := h c rfl
          simp only [Nat.add_zero] at this
          rw [this]; rfl
      | succ n =>
        obtain ⟨c', h1, h2⟩ := hok 0 (by omega)
        simp at h1; subst h1
        simp only [Nat.add_zero] at h2
        rw [h2, if_pos rfl, ih (k + 1) t n (by omega) ?_ ?_]
        · intro j hj
          obtain ⟨c', h1, h2⟩ := hok (j + 1) (by omega)
          exact ⟨c', by simpa using h1, by rw [show k + 1 + j = k + (j + 1) by omega]; exact h2⟩
        · rcases hst with h | h
          · left; omega
          · right; intro c' h1
            rw [show k + 1 + n = k + (n + 1) by omega]
            exact h c' (by simpa using h1)

theorem nl_char {l : Bs} {n : Nat} (hn : n ≤ 64) (hok : ∀ j, j < n → ∃ c, l[j]? = some c ∧ okc j c = true)
    (hst : n = 64 ∨ ∀ c, l[n]? = some c → okc n c = false) : nl l = n :=
  nlA_char 64 0 l n hn (fun j hj => by rw [Nat.zero_add]; exact hok j hj) (by rw [Nat.zero_add]; exact hst)

theorem nlA_le : ∀ (m k : Nat) (l : Bs), nlA m k l ≤ m ∧ nlA m k l ≤ l.length ∧ ∀ j, j < nlA m k l → ∃ c, l[j]? = some c ∧ okc (k + j) c = true := by
  intro m
  induction m with
  | zero => intro k l; simp [nlA]
  | succ m ih =>
    intro k l
    cases l with
    | nil => simp [nlA]
    | cons c t =>
      simp only [nlA]
      by_cases h : okc k c = true
      · rw [if_pos h]
        obtain ⟨h1, h2, h3⟩ := ih (k + 1) t
        refine ⟨by omega, by simp; omega, ?_⟩
        intro j hj
        cases j with
        | zero => exact ⟨c, rfl, by simpa using h⟩
        | succ j =>
          obtain ⟨c', h4, h5⟩ := h3 j (by omega)
          exact ⟨c', by simpa using h4, by rw [show k + (j + 1) = k + 1 + j by omega]; exact h5⟩
      · rw [if_neg h]; simp

theorem nl_le64 (l : Bs) : nl l ≤ 64 := (nlA_le 64 0 l).1
theorem nl_le (l : Bs) : nl l ≤ l.length := (nlA_le 64 0 l).2.1
theorem nl_ok {l : Bs} {j : Nat} (h : j < nl l) : ∃ c, l[j]? = some c ∧ okc j c = true := by
  have := (nlA_le 64 0 l).2.2 j h
  rwa [Nat.zero_add] at this

theorem name_take {l : Bs} (h : 0 < nl l) : isName (l.take (nl l)) := by
  have h1 := nl_le64 l
  have h2 := nl_le l
  refine ⟨by simp; omega, by simp; omega, ?_⟩
  intro j c hj
  rw [List.getElem?_take] at hj
  split at hj
  · obtain ⟨c', h3, h4⟩ := nl_ok (l := l) (by assumption)
    rw [h3] at hj; cases hj; exact h4
  · cases hj

theorem okc_semi (k : Nat) : okc k 59 = false := by unfold okc; simp [isL, isD]
theorem nl_name {nm rest : Bs} (h : isName nm) : nl (nm ++ 59 :: rest) = nm.length := by
  obtain ⟨h1, h2, h3⟩ := h
  refine nl_char h2 ?_ ?_
  · intro j hj
    have : (nm ++ 59 :: rest)[j]? = nm[j]? := List.getElem?_append_left hj
    rw [this, List.getElem?_eq_getElem hj]
    exact ⟨_, rfl, h3 j _ (List.getElem?_eq_getElem hj)⟩
  · right
    intro c hc
    rw [List.getElem?_append_right (Nat.le_refl _)] at hc
    simp at hc; subst hc; exact okc_semi _
theorem nl_whole {nm : Bs} (h : isName nm) : nl nm = nm.length := by
  obtain ⟨h1, h2, h3⟩ := h
  refine nl_char h2 ?_ ?_
  · intro j hj
    rw [List.getElem?_eq_getElem hj]
    exact ⟨_, rfl, h3 j _ (List.getElem?_eq_getElem hj)⟩
  · right
    intro c hc
    rw [List.getElem?_eq_none (Nat.le_refl _)] at hc
    cases hc
theorem isName_iff (l : Bs) : isName l ↔ 0 < nl l ∧ nl l = l.length := by
  constructor
  · intro h
    have := nl_whole h
    have := h.1
    exact ⟨by omega, by omega⟩
  · rintro ⟨h1, h2⟩
    have := name_take h1
    rwa [h2, List.take_length] at this
theorem isName_semi {l : Bs} (h : isName l) : (59 : UInt8) ∉ l := by
  intro hm
  obtain ⟨j, hj, e⟩ := List.mem_iff_getElem.1 hm
  have := h.2.2 j 59 (by rw [List.getElem?_eq_getElem hj, e])
  rw [okc_semi] at this; cases this

/-- The field without an array's sign. -/
def base (l : Bs) : Nat :=
  match l with
  | [] => 0
  | c :: t => if c = 73 then 1 else if c = 76 then (if 0 < nl t ∧ t[nl t]? = some 59 then nl t + 2 else 0) else 0
def flen (l : Bs) : Nat :=
  match l with
  | [] => 0
  | c :: t => if c = 91 then (if base t = 0 then 0 else base t + 1) else base (c :: t)

/-- A field without an array's sign, as the document has it. -/
def Plain (f : Bs) : Prop := f = [73] ∨ ∃ nm, isName nm ∧ f = 76 :: (nm ++ [59])
def Fld (f : Bs) : Prop := Plain f ∨ ∃ g, Plain g ∧ f = 91 :: g

theorem base_of {f : Bs} (h : Plain f) (rest : Bs) : base (f ++ rest) = f.length := by
  rcases h with rfl | ⟨nm, hn, rfl⟩
  · simp [base]
  · have e : nl (nm ++ 59 :: rest) = nm.length := nl_name hn
    have h1 := hn.1
    have e2 : (nm ++ 59 :: rest)[nm.length]? = some 59 := by rw [List.getElem?_append_right (Nat.le_refl _)]; simp
    simp only [List.cons_append, List.append_assoc, List.nil_append, base]
    rw [e, if_neg (by decide), if_pos trivial, if_pos ⟨by omega, e2⟩]
    simp
theorem base_zero {l : Bs} (h : base l ≠ 0) : ∃ f rest, Plain f ∧ l = f ++ rest ∧ base l = f.length := by
  cases l with
  | nil => exact absurd rfl h
  | cons c t =>
    unfold base at h ⊢
    simp only at h ⊢
    by_cases c1 : c = 73
    · subst c1
      exact ⟨[73], t, .inl rfl, rfl, by simp⟩
    · rw [if_neg c1] at h ⊢
      by_cases c2 : c = 76
      · subst c2
        rw [if_pos rfl] at h ⊢
        by_cases c3 : 0 < nl t ∧ t[nl t]? = some 59
        · rw [if_pos c3]
          obtain ⟨c3, c4⟩ := c3
          have hlt : nl t < t.length := by
            rcases Nat.lt_or_ge (nl t) t.length with h | h
            · exact h
            · rw [List.getElem?_eq_none h] at c4; cases c4
          have e : t = t.take (nl t) ++ 59 :: t.drop (nl t + 1) := by
            conv => lhs; rw [← List.take_append_drop (nl t) t]
            rw [List.drop_eq_getElem_cons hlt]
            rw [List.getElem?_eq_getElem hlt] at c4
            simp only [Option.some.injEq] at c4
            rw [c4]
          refine ⟨76 :: (t.take (nl t) ++ [59]), t.drop (nl t + 1), .inr ⟨_, name_take c3, rfl⟩, ?_, ?_⟩
          · conv => lhs; rw [e]
            simp
          · simp; omega
        · rw [if_neg c3] at h; exact absurd rfl h
      · rw [if_neg c2] at h; exact absurd rfl h
theorem plain_head {g : Bs} (h : Plain g) : ∃ c t, g = c :: t ∧ (c = 73 ∨ c = 76) := by
  rcases h with rfl | ⟨nm, _, rfl⟩
  · exact ⟨_, _, rfl, .inl rfl⟩
  · exact ⟨_, _, rfl, .inr rfl⟩
theorem plain_pos {g : Bs} (h : Plain g) : 0 < g.length := by obtain ⟨c, t, rfl, _⟩ := plain_head h; simp
theorem flen_of {f : Bs} (h : Fld f) (rest : Bs) : flen (f ++ rest) = f.length := by
  rcases h with h | ⟨g, h, rfl⟩
  · have e := base_of h rest
    obtain ⟨c, t, rfl, hc⟩ := plain_head h
    rw [List.cons_append] at e ⊢
    unfold flen
    simp only
    rw [if_neg (by rcases hc with rfl | rfl <;> decide), e]
  · have e := base_of h rest
    have hp := plain_pos h
    rw [List.cons_append]
    unfold flen
    simp only
    rw [if_pos trivial, e, if_neg (by omega)]
    simp
theorem flen_zero {l : Bs} (h : flen l ≠ 0) : ∃ f rest, Fld f ∧ l = f ++ rest ∧ flen l = f.length := by
  cases l with
  | nil => exact absurd rfl h
  | cons c t =>
    unfold flen at h ⊢
    simp only at h ⊢
    by_cases c1 : c = 91
    · subst c1
      rw [if_pos rfl] at h ⊢
      by_cases c2 : base t = 0
      · rw [if_pos c2] at h; exact absurd rfl h
      · rw [if_neg c2]
        obtain ⟨f, r, h1, h2, h3⟩ := base_zero c2
        exact ⟨91 :: f, r, .inr ⟨f, h1, rfl⟩, by rw [h2]; rfl, by rw [h3]; simp⟩
    · rw [if_neg c1] at h ⊢
      obtain ⟨f, r, h1, h2, h3⟩ := base_zero h
      exact ⟨f, r, .inl h1, h2, h3⟩
theorem fld_pos {f : Bs} (h : Fld f) : 0 < f.length := by
  rcases h with h | ⟨g, h, rfl⟩
  · exact plain_pos h
  · simp
theorem plain_len {f : Bs} (h : Plain f) : f.length ≤ 66 := by
  rcases h with rfl | ⟨nm, h, rfl⟩
  · simp
  · have := h.2.1; simp; omega
theorem fld_len {f : Bs} (h : Fld f) : f.length ≤ 67 := by
  rcases h with h | ⟨g, h, rfl⟩
  · have := plain_len h; omega
  · have := plain_len h; simp; omega
theorem flen_le (l : Bs) : flen l ≤ l.length ∧ flen l ≤ 67 := by
  by_cases h : flen l = 0
  · omega
  · obtain ⟨f, r, h1, h2, h3⟩ := flen_zero h
    have := fld_len h1
    refine ⟨?_, by omega⟩
    rw [h3, h2]; simp
theorem fld_iff (l : Bs) : Fld l ↔ 0 < flen l ∧ flen l = l.length := by
  constructor
  · intro h
    have := flen_of h []
    rw [List.append_nil] at this
    have := fld_pos h
    omega
  · rintro ⟨h1, h2⟩
    obtain ⟨f, r, h3, h4, h5⟩ := flen_zero (l := l) (by omega)
    have : r = [] := by
      have := congrArg List.length h4
      rw [List.length_append] at this
      exact List.eq_nil_of_length_eq_zero (by omega)
    rw [h4, this, List.append_nil]; exact h3
theorem flen_take {l : Bs} (h : flen l ≠ 0) : Fld (l.take (flen l)) := by
  obtain ⟨f, r, h3, h4, h5⟩ := flen_zero h
  rw [h5, h4, List.take_left]; exact h3

/-- The fields that a text begins with, but no more than m, and the rest. -/
def lead : Nat → Bs → List Bs × Bs
  | 0, l => ([], l)
  | m + 1, l => if flen l = 0 then ([], l) else (l.take (flen l) :: (lead m (l.drop (flen l))).1, (lead m (l.drop (flen l))).2)
theorem lead_char : ∀ (m : Nat) (ps : List Bs) (rest : Bs), (∀ p ∈ ps, Fld p) → ps.length ≤ m → (ps.length = m ∨ flen rest = 0) → lead m (ps.flatten ++ rest) = (ps, rest) := by
  intro m
  induction m with
  | zero => intro ps rest _ h _; obtain rfl : ps = [] := List.eq_nil_of_length_eq_zero (by omega); rfl
  | succ m ih =>
    intro ps rest hp hl hr
    cases ps with
    | nil =>
      rcases hr with h | h
      · simp at h
      · simp [lead, h]
    | cons p ps =>
      have hf := hp p (by simp)
      have e : flen ((p :: ps).flatten ++ rest) = p.length := by rw [List.flatten_cons, List.append_assoc]; exact flen_of hf _
      have hpos := fld_pos hf
      have ih' := ih ps rest (fun q hq => hp q (by simp [hq])) (by simpa using hl) (by simpa using hr)
      unfold lead
      rw [e, if_neg (by omega), List.flatten_cons, List.append_assoc, List.take_left, List.drop_left, ih']
theorem lead_inv : ∀ (m : Nat) (l : Bs), (∀ p ∈ (lead m l).1, Fld p) ∧ (lead m l).1.length ≤ m ∧ l = (lead m l).1.flatten ++ (lead m l).2 ∧ ((lead m l).1.length = m ∨ flen (lead m l).2 = 0) := by
  intro m
  induction m with
  | zero => intro l; simp [lead]
  | succ m ih =>
    intro l
    unfold lead
    by_cases h : flen l = 0
    · rw [if_pos h]; simp [h]
    · rw [if_neg h]
      obtain ⟨h1, h2, h3, h4⟩ := ih (l.drop (flen l))
      refine ⟨?_, by simpa using h2, ?_, by simpa using h4⟩
      · intro p hp
        rcases List.mem_cons.1 hp with rfl | hp
        · exact flen_take h
        · exact h1 p hp
      · show l = (_ :: _).flatten ++ _
        rw [List.flatten_cons, List.append_assoc, ← h3, List.take_append_drop]

/-- A method's text, taken apart. -/
def meth (l : Bs) : Option (List Bs × Bs) :=
  match l with
  | [] => none
  | c :: t => if c = 40 then
      (match (lead 8 t).2 with
       | [] => none
       | d :: r => if d = 41 then (if r = [86] ∨ (0 < flen r ∧ flen r = r.length) then some ((lead 8 t).1, r) else none) else none)
    else none
/-- What the document calls a method's text. -/
def Meth (l : Bs) (ps : List Bs) (r : Bs) : Prop := l = 40 :: (ps.flatten ++ 41 :: r) ∧ (∀ p ∈ ps, Fld p) ∧ ps.length ≤ 8 ∧ (r = [86] ∨ Fld r)
theorem flen_close (r : Bs) : flen (41 :: r) = 0 := by simp [flen, base]
theorem meth_of {l : Bs} {ps : List Bs} {r : Bs} (h : Meth l ps r) : meth l = some (ps, r) := by
  obtain ⟨rfl, h1, h2, h3⟩ := h
  have e := lead_char 8 ps (41 :: r) h1 h2 (.inr (flen_close r))
  unfold meth
  simp only
  rw [if_pos trivial, e]
  simp only
  rw [if_pos trivial, if_pos]
  rcases h3 with h3 | h3
  · exact .inl h3
  · exact .inr ((fld_iff r).1 h3)
theorem meth_inv {l : Bs} {ps : List Bs} {r : Bs} (h : meth l = some (ps, r)) : Meth l ps r := by
  unfold meth at h
  split at h
  · cases h
  · rename_i c t
    split at h
    · rename_i hc
      subst hc
      obtain ⟨h1, h2, h3, h4⟩ := lead_inv 8 t
      split at h
      · cases h
      · rename_i d r' he
        split at h
        · rename_i hd
          subst hd
          split at h
          · rename_i hr
            simp only [Option.some.injEq, Prod.mk.injEq] at h
            obtain ⟨rfl, rfl⟩ := h
            refine ⟨?_, h1, h2, ?_⟩
            · rw [← he, ← h3]
            · rcases hr with hr | hr
              · exact .inl hr
              · exact .inr ((fld_iff _).2 hr)
          · cases h
        · cases h
    · cases h
theorem flat_len {ps : List Bs} (h : ∀ p ∈ ps, Fld p) : ps.flatten.length ≤ 67 * ps.length := by
  induction ps with
  | nil => simp
  | cons p ps ih =>
    have h1 := fld_len (h p (by simp))
    have h2 := ih (fun q hq => h q (by simp [hq]))
    rw [List.flatten_cons, List.length_append, List.length_cons]; omega
end Go.Proofs.Ytacmooknfbjpeaa.Q.D

