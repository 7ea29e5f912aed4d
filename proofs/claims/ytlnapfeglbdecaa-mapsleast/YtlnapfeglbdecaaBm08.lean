/- Texts DDM DDW DDF DDG DDL PC Base PV PI. -/
import Derived.Test.YtlnapfeglbdecaaProg
import Derived.WalkKit
import Derived.WalkSpells
import Derived.WalkLawsBesides
import Derived.Maps.AppendAt
import Derived.WalkMore
import Derived.Lib.Strings
import Derived.Lib.OthersKept
import Derived.Deep.LoopGhost
import Derived.Deep.QuietTactic
import Derived.BigQuiet
import Derived.Deep.AppendLies
import Derived.Deep.RegionHeld3
import Derived.Deep.RegionLaw
import Derived.Handy
namespace Go.Proofs.Ytlnapfeglbdecaa.P3.D
open Go.RowKit
abbrev Bs := List UInt8
def isL (c : UInt8) : Bool := decide (97 ≤ c.toNat ∧ c.toNat ≤ 122 ∨ 65 ≤ c.toNat ∧ c.toNat ≤ 90 ∨ c.toNat = 95 ∨ c.toNat = 36)
def isD (c : UInt8) : Bool := decide (48 ≤ c.toNat ∧ c.toNat ≤ 57)
def okc (k : Nat) (c : UInt8) : Bool := isL c || (isD c && decide (0 < k))

def isName (l : Bs) : Prop := 1 ≤ l.length ∧ l.length ≤ 64 ∧ ∀ j c, l[j]? = some c → okc j c = true

def nlA : Nat → Nat → Bs → Nat
  | 0, _, _ => 0
  | _ + 1, _, [] => 0
  | m + 1, k, c :: t => if okc k c then nlA m (k + 1) t + 1 else 0
def nl (l : Bs) : Nat := nlA 64 0 l

theorem nlA_char : ∀ (m k : Nat) (l : Bs) (n : Nat), n ≤ m → (∀ j, j < n → ∃ c, l[j]? = some c ∧ okc (k + j) c = true) →
    (n = m ∨ ∀ c, l[n]? = some c → okc (k + n) c = false) → nlA m k l = n := by
  intro m
  induction m with
  | zero => intro k l n h _ _; simp [nlA]; omega
  | succ m ih =>
    intro k l n hn hok hst
    cases l with
    | nil =>
      simp only [nlA]
      cases n with
      | zero => rfl
      | succ n => obtain ⟨c, h, _⟩ := hok 0 (by omega); simp at h
    | cons c t =>
      simp only [nlA]
      cases n with
      | zero =>
        rcases hst with h | h
        · omega
        · have := h c rfl
          simp only [Nat.add_zero] at this
          rw [this]; rfl
      | succ n =>
        obtain ⟨c', h1, h2⟩ := hok 0 (by omega)
        simp at h1; subst h1
        simp only [Nat.add_zero] at h2
        rw [h2, if_pos rfl, ih (k + 1) t n (by omega) ?_ ?_]
        · intro j hj
          obtain ⟨c', h1, h2⟩ := hok (j + 1) (by omega)
          exact ⟨c', by simpa using h1, by rw [show k + 1 + j = k + (j + 1) by omega]; exact h2⟩
        · rcases hst with h | h
          · left; omega
          · right; intro c' h1
            rw [show k + 1 + n = k + (n + 1) by omega]
            exact h c' (by simpa using h1)

theorem nl_char {l : Bs} {n : Nat} (hn : n ≤ 64) (hok : ∀ j, j < n → ∃ c, l[j]? = some c ∧ okc j c = true)
    (hst : n = 64 ∨ ∀ c, l[n]? = some c → okc n c = false) : nl l = n :=
  nlA_char 64 0 l n hn (fun j hj => by rw [Nat.zero_add]; exact hok j hj) (by rw [Nat.zero_add]; exact hst)

theorem nlA_le : ∀ (m k : Nat) (l : Bs), nlA m k l ≤ m ∧ nlA m k l ≤ l.length ∧ ∀ j, j < nlA m k l → ∃ c, l[j]? = some c ∧ okc (k + j) c = true := by
  intro m
  induction m with
  | zero => intro k l; simp [nlA]
  | succ m ih =>
    intro k l
    cases l with
    | nil => simp [nlA]
    | cons c t =>
      simp only [nlA]
      by_cases h : okc k c = true
      · rw [if_pos h]
        obtain ⟨h1, h2, h3⟩ := ih (k + 1) t
        refine ⟨by omega, by simp; omega, ?_⟩
        intro j hj
        cases j with
        | zero => exact ⟨c, rfl, by simpa using h⟩
        | succ j =>
          obtain ⟨c', h4, h5⟩ := h3 j (by omega)
          exact ⟨c', by simpa using h4, by rw [show k + (j + 1) = k + 1 + j by omega]; exact h5⟩
      · rw [if_neg h]; simp

theorem nl_le64 (l : Bs) : nl l ≤ 64 := (nlA_le 64 0 l).1
theorem nl_le (l : Bs) : nl l ≤ l.length := (nlA_le 64 0 l).2.1
theorem nl_ok {l : Bs} {j : Nat} (h : j < nl l) : ∃ c, l[j]? = some c ∧ okc j c = true := by
  have := (nlA_le 64 0 l).2.2 j h
  rwa [Nat.zero_add] at this

theorem name_take {l : Bs} (h : 0 < nl l) : isName (l.take (nl l)) := by
  have h1 := nl_le64 l
  have h2 := nl_le l
  refine ⟨by simp; omega, by simp; omega, ?_⟩
  intro j c hj
  rw [List.getElem?_take] at hj
  split at hj
  · obtain ⟨c', h3, h4⟩ := nl_ok (l := l) (by assumption)
    rw [h3] at hj; cases hj; exact h4
  · cases hj

theorem okc_semi (k : Nat) : okc k 59 = false := by unfold okc; simp [isL, isD]
theorem nl_name {nm rest : Bs} (h : isName nm) : nl (nm ++ 59 :: rest) = nm.length := by
  obtain ⟨h1, h2, h3⟩ := h
  refine nl_char h2 ?_ ?_
  · intro j hj
    have : (nm ++ 59 :: rest)[j]? = nm[j]? := List.getElem?_append_left hj
    rw [this, List.getElem?_eq_getElem hj]
    exact ⟨_, rfl, h3 j _ (List.getElem?_eq_getElem hj)⟩
  · right
    intro c hc
    rw [List.getElem?_append_right (Nat.le_refl _)] at hc
    simp at hc; subst hc; exact okc_semi _
theorem nl_whole {nm : Bs} (h : isName nm) : nl nm = nm.length := by
  obtain ⟨h1, h2, h3⟩ := h
  refine nl_char h2 ?_ ?_
  · intro j hj
    rw [List.getElem?_eq_getElem hj]
    exact ⟨_, rfl, h3 j _ (List.getElem?_eq_getElem hj)⟩
  · right
    intro c hc
    rw [List.getElem?_eq_none (Nat.le_refl _)] at hc
    cases hc
theorem isName_iff (l : Bs) : isName l ↔ 0 < nl l ∧ nl l = l.length := by
  constructor
  · intro h
    have := nl_whole h
    have := h.1
    exact ⟨by omega, by omega⟩
  · rintro ⟨h1, h2⟩
    have := name_take h1
    rwa [h2, List.take_length] at this

def base (l : Bs) : Nat :=
  match l with
  | [] => 0
  | c :: t => if c = 73 then 1 else if c = 76 then (if 0 < nl t ∧ t[nl t]? = some 59 then nl t + 2 else 0) else 0
def flen (l : Bs) : Nat :=
  match l with
  | [] => 0
  | c :: t => if c = 91 then (if base t = 0 then 0 else base t + 1) else base (c :: t)

def Plain (f : Bs) : Prop := f = [73] ∨ ∃ nm, isName nm ∧ f = 76 :: (nm ++ [59])
def Fld (f : Bs) : Prop := Plain f ∨ ∃ g, Plain g ∧ f = 91 :: g

theorem base_of {f : Bs} (h : Plain f) (rest : Bs) : base (f ++ rest) = f.length := by
  rcases h with rfl | ⟨nm, hn, rfl⟩
  · simp [base]
  · have e : nl (nm ++ 59 :: rest) = nm.length := nl_name hn
    have h1 := hn.1
    have e2 : (nm ++ 59 :: rest)[nm.length]? = some 59 := by rw [List.getElem?_append_right (Nat.le_refl _)]; simp
    simp only [List.cons_append, List.append_assoc, List.nil_append, base]
    rw [e, if_neg (by decide), if_pos trivial, if_pos ⟨by omega, e2⟩]
    simp
theorem base_zero {l : Bs} (h : base l ≠ 0) : ∃ f rest, Plain f ∧ l = f ++ rest ∧ base l = f.length := by
  cases l with
  | nil => exact absurd rfl h
  | cons c t =>
    unfold base at h ⊢
    simp only at h ⊢
    by_cases c1 : c = 73
    · subst c1
      exact ⟨[73], t, .inl rfl, rfl, by simp⟩
    · rw [if_neg c1] at h ⊢
      by_cases c2 : c = 76
      · subst c2
        rw [if_pos rfl] at h ⊢
        by_cases c3 : 0 < nl t ∧ t[nl t]? = some 59
        · rw [if_pos c3]
          obtain ⟨c3, c4⟩ := c3
          have hlt : nl t < t.length := by
            rcases Nat.lt_or_ge (nl t) t.length with h | h
            · exact h
            · rw [List.getElem?_eq_none h] at c4; cases c4
          have e : t = t.take (nl t) ++ 59 :: t.drop (nl t + 1) := by
            conv => lhs; rw [← List.take_append_drop (nl t) t]
            rw [List.drop_eq_getElem_cons hlt]
            rw [List.getElem?_eq_getElem hlt] at c4
            simp only [Option.some.injEq] at c4
            rw [c4]
          refine ⟨76 :: (t.take (nl t) ++ [59]), t.drop (nl t + 1), .inr ⟨_, name_take c3, rfl⟩, ?_, ?_⟩
          · conv => lhs; rw [e]
            simp
          · simp; omega
        · rw [if_neg c3] at h; exact absurd rfl h
      · rw [if_neg c2] at h; exact absurd rfl h
theorem plain_head {g : Bs} (h : Plain g) : ∃ c t, g = c :: t ∧ (c = 73 ∨ c = 76) := by
  rcases h with rfl | ⟨nm, _, rfl⟩
  · exact ⟨_, _, rfl, .inl rfl⟩
  · exact ⟨_, _, rfl, .inr rfl⟩
theorem plain_pos {g : Bs} (h : Plain g) : 0 < g.length := by obtain ⟨c, t, rfl, _⟩ := plain_head h; simp
theorem flen_of {f : Bs} (h : Fld f) (rest : Bs) : flen (f ++ rest) = f.length := by
  rcases h with h | ⟨g, h, rfl⟩
  · have e := base_of h rest
    obtain ⟨c, t, rfl, hc⟩ := plain_head h
    rw [List.cons_append] at e ⊢
    unfold flen
    simp only
    rw [if_neg (by rcases hc with rfl | rfl <;> decide), e]
  · have e := base_of h rest
    have hp := plain_pos h
    rw [List.cons_append]
    unfold flen
    simp only
    rw [if_pos trivial, e, if_neg (by omega)]
    simp
theorem flen_zero {l : Bs} (h : flen l ≠ 0) : ∃ f rest, Fld f ∧ l = f ++ rest ∧ flen l = f.length := by
  cases l with
  | nil => exact absurd rfl h
  | cons c t =>
    unfold flen at h ⊢
    simp only at h ⊢
    by_cases c1 : c = 91
    · subst c1
      rw [if_pos rfl] at h ⊢
      by_cases c2 : base t = 0
      · rw [if_pos c2] at h; exact absurd rfl h
      · rw [if_neg c2]
        obtain ⟨f, r, h1, h2, h3⟩ := base_zero c2
        exact ⟨91 :: f, r, .inr ⟨f, h1, rfl⟩, by rw [h2]; rfl, by rw [h3]; simp⟩
    · rw [if_neg c1] at h ⊢
      obtain ⟨f, r, h1, h2, h3⟩ := base_zero h
      exact ⟨f, r, .inl h1, h2, h3⟩
theorem fld_pos {f : Bs} (h : Fld f) : 0 < f.length := by
  rcases h with h | ⟨g, h, rfl⟩
  · exact plain_pos h
  · simp
theorem plain_len {f : Bs} (h : Plain f) : f.length ≤ 66 := by
  rcases h with rfl | ⟨nm, h, rfl⟩
  · simp
  · have := h.2.1; simp; omega
theorem fld_len {f : Bs} (h : Fld f) : f.length ≤ 67 := by
  rcases h with h | ⟨g, h, rfl⟩
  · have := plain_len h; omega
  · have := plain_len h; simp; omega
theorem flen_le (l : Bs) : flen l ≤ l.length ∧ flen l ≤ 67 := by
  by_cases h : flen l = 0
  · omega
  · obtain ⟨f, r, h1, h2, h3⟩ := flen_zero h
    have := fld_len h1
    refine ⟨?_, by omega⟩
    rw [h3, h2]; simp
theorem fld_iff (l : Bs) : Fld l ↔ 0 < flen l ∧ flen l = l.length := by
  constructor
  · intro h
    have := flen_of h []
    rw [List.append_nil] at this
    have := fld_pos h
    omega
  · rintro ⟨h1, h2⟩
    obtain ⟨f, r, h3, h4, h5⟩ := flen_zero (l := l) (by omega)
    have : r = [] := by
      have := congrArg List.length h4
      rw [List.length_append] at this
      exact List.eq_nil_of_length_eq_zero (by omega)
    rw [h4, this, List.append_nil]; exact h3
theorem flen_take {l : Bs} (h : flen l ≠ 0) : Fld (l.take (flen l)) := by
  obtain ⟨f, r, h3, h4, h5⟩ := flen_zero h
  rw [h5, h4, List.take_left]; exact h3

def lead : Nat → Bs → List Bs × Bs
  | 0, l => ([], l)
  | m + 1, l => if flen l = 0 then ([], l) else (l.take (flen l) :: (lead m (l.drop (flen l))).1, (lead m (l.drop (flen l))).2)
theorem lead_char : ∀ (m : Nat) (ps : List Bs) (rest : Bs), (∀ p ∈ ps, Fld p) → ps.length ≤ m → (ps.length = m ∨ flen rest = 0) → lead m (ps.flatten ++ rest) = (ps, rest) := by
  intro m
  induction m with
  | zero => intro ps rest _ h _; obtain rfl : ps = [] := List.eq_nil_of_length_eq_zero (by omega); rfl
  | succ m ih =>
    intro ps rest hp hl hr
    cases ps with
    | nil =>
      rcases hr with h | h
      · simp at h
      · simp [lead, h]
    | cons p ps =>
      have hf := hp p (by simp)
      have e : flen ((p :: ps).flatten ++ rest) = p.length := by rw [List.flatten_cons, List.append_assoc]; exact flen_of hf _
      have hpos := fld_pos hf
      have ih' := ih ps rest (fun q hq => hp q (by simp [hq])) (by simpa using hl) (by simpa using hr)
      unfold lead
      rw [e, if_neg (by omega), List.flatten_cons, List.append_assoc, List.take_left, List.drop_left, ih']
theorem lead_inv : ∀ (m : Nat) (l : Bs), (∀ p ∈ (lead m l).1, Fld p) ∧ (lead m l).1.length ≤ m ∧ l = (lead m l).1.flatten ++ (lead m l).2 ∧ ((lead m l).1.length = m ∨ flen (lead m l).2 = 0) := by
  intro m
  induction m with
  | zero => intro l; simp [lead]
  | succ m ih =>
    intro l
    unfold lead
    by_cases h : flen l = 0
    · rw [if_pos h]; simp [h]
    · rw [if_neg h]
      obtain ⟨h1, h2, h3, h4⟩ := ih (l.drop (flen l))
      refine ⟨?_, by simpa using h2, ?_, by simpa using h4⟩
      · intro p hp
        rcases List.mem_cons.1 hp with rfl | hp
        · exact flen_take h
        · exact h1 p hp
      · show l = (_ :: _).flatten ++ _
        rw [List.flatten_cons, List.append_assoc, ← h3, List.take_append_drop]

def meth (l : Bs) : Option (List Bs × Bs) :=
  match l with
  | [] => none
  | c :: t => if c = 40 then
      (match (lead 8 t).2 with
       | [] => none
       | d :: r => if d = 41 then (if r = [86] ∨ (0 < flen r ∧ flen r = r.length) then some ((lead 8 t).1, r) else none) else none)
    else none
def Meth (l : Bs) (ps : List Bs) (r : Bs) : Prop := l = 40 :: (ps.flatten ++ 41 :: r) ∧ (∀ p ∈ ps, Fld p) ∧ ps.length ≤ 8 ∧ (r = [86] ∨ Fld r)
theorem flen_close (r : Bs) : flen (41 :: r) = 0 := by simp [flen, base]
theorem meth_of {l : Bs} {ps : List Bs} {r : Bs} (h : Meth l ps r) : meth l = some (ps, r) := by
  obtain ⟨rfl, h1, h2, h3⟩ := h
  have e := lead_char 8 ps (41 :: r) h1 h2 (.inr (flen_close r))
  unfold meth
  simp only
  rw [if_pos trivial, e]
  simp only
  rw [if_pos trivial, if_pos]
  rcases h3 with h3 | h3
  · exact .inl h3
  · exact .inr ((fld_iff r).1 h3)
theorem meth_inv {l : Bs} {ps : List Bs} {r : Bs} (h : meth l = some (ps, r)) : Meth l ps r := by
  unfold meth at h
  split at h
  · cases h
  · rename_i c t
    split at h
    · rename_i hc
      subst hc
      obtain ⟨h1, h2, h3, h4⟩ := lead_inv 8 t
      split at h
      · cases h
      · rename_i d r' he
        split at h
        · rename_i hd
          subst hd
          split at h
          · rename_i hr
            simp only [Option.some.injEq, Prod.mk.injEq] at h
            obtain ⟨rfl, rfl⟩ := h
            refine ⟨?_, h1, h2, ?_⟩
            · rw [← he, ← h3]
            · rcases hr with hr | hr
              · exact .inl hr
              · exact .inr ((fld_iff _).2 hr)
          · cases h
        · cases h
    · cases h
end Go.Proofs.Ytlnapfeglbdecaa.P3.D
namespace Go.Proofs.Ytlnapfeglbdecaa.P3.D
open Go.RowKit
theorem at_get (s : ByteArray) (k : Nat) (h : k < s.size) : s.data.toList[k]? = some s[k] := by
  have h' : k < s.data.toList.length := by simpa using h
  rw [List.getElem?_eq_getElem h']; rfl
theorem size_len (s : ByteArray) : s.size = s.data.toList.length := Lib.size_eq s
theorem hidIt {p : Prop} (h : p) : Hid p := h
theorem ret_int {k : IntKind} {a b : Int} (h : a = b) : Ending.returned (.int k a) = .returned (.int k b) := by rw [h]

theorem okc_iff (k : Nat) (c : UInt8) : okc k c = true ↔ (97 ≤ c.toNat ∧ c.toNat ≤ 122 ∨ 65 ≤ c.toNat ∧ c.toNat ≤ 90 ∨ c.toNat = 95 ∨ c.toNat = 36) ∨ ((48 ≤ c.toNat ∧ c.toNat ≤ 57) ∧ 0 < k) := by
  simp [okc, isL, isD]
theorem okc_not (k : Nat) (c : UInt8) : okc k c = false ↔ ¬ ((97 ≤ c.toNat ∧ c.toNat ≤ 122 ∨ 65 ≤ c.toNat ∧ c.toNat ≤ 90 ∨ c.toNat = 95 ∨ c.toNat = 36) ∨ ((48 ≤ c.toNat ∧ c.toNat ≤ 57) ∧ 0 < k)) := by
  rw [← okc_iff]; simp

def Seen (s : ByteArray) (k : Nat) : Prop := k ≤ s.size ∧ k ≤ 64 ∧ ∀ j, j < k → ∃ c, s.data.toList[j]? = some c ∧ okc j c = true
theorem Seen.more {s : ByteArray} {k : Nat} (h : Seen s k) (h1 : k < s.size) (h2 : k < 64) (h3 : okc k s[k] = true) : Seen s (k + 1) := by
  refine ⟨by omega, by omega, fun j hj => ?_⟩
  by_cases e : j = k
  · subst e; exact ⟨_, at_get s j h1, h3⟩
  · exact h.2.2 j (by omega)

end Go.Proofs.Ytlnapfeglbdecaa.P3.D
namespace Go.Proofs.Ytlnapfeglbdecaa.P3.D
open Go.RowKit
theorem u8_of {c : UInt8} {n : Nat} (h : c.toNat = n) (hn : n < 256) : c = UInt8.ofNat n := by
  apply UInt8.toNat.inj; rw [h]; simp; omega
theorem drop_at (s : ByteArray) (n : Nat) (h : n < s.size) : s.data.toList.drop n = s[n] :: s.data.toList.drop (n + 1) := by
  have h' : n < s.data.toList.length := by rw [← size_len]; exact h
  rw [List.drop_eq_getElem_cons h']; rfl
theorem ext_data (s : ByteArray) (n : Nat) : (s.extract n s.size).data.toList = s.data.toList.drop n := by
  rw [Lib.extract_data, List.take_of_length_le]
  rw [List.length_drop, size_len]; omega
theorem base_I (s : ByteArray) (n : Nat) (h : n < s.size) (hc : s[n].toNat = 73) : base (s.data.toList.drop n) = 1 := by
  rw [drop_at s n h, u8_of hc (by omega)]; rfl
theorem base_L (s : ByteArray) (n : Nat) (h : n < s.size) (hc : s[n].toNat = 76) : base (s.data.toList.drop n) =
    if 0 < nl (s.extract (n + 1) s.size).data.toList ∧ (s.data.toList.drop (n + 1))[nl (s.extract (n + 1) s.size).data.toList]? = some 59 then nl (s.extract (n + 1) s.size).data.toList + 2 else 0 := by
  rw [drop_at s n h, u8_of hc (by omega), ext_data]; rfl
theorem base_no (s : ByteArray) (n : Nat) (h : n < s.size) (hc : s[n].toNat ≠ 73) (hd : s[n].toNat ≠ 76) : base (s.data.toList.drop n) = 0 := by
  rw [drop_at s n h]
  unfold base
  simp only
  rw [if_neg (by intro e; rw [e] at hc; exact hc rfl), if_neg (by intro e; rw [e] at hd; exact hd rfl)]
theorem base_end (s : ByteArray) (n : Nat) (h : s.size ≤ n) : base (s.data.toList.drop n) = 0 := by
  rw [List.drop_eq_nil_of_le (by rw [← size_len]; exact h)]; rfl
theorem flen_arr (s : ByteArray) (h : 0 < s.size) (hc : s[0].toNat = 91) : flen s.data.toList = if base (s.data.toList.drop 1) = 0 then 0 else base (s.data.toList.drop 1) + 1 := by
  have e := drop_at s 0 h
  rw [List.drop_zero] at e
  conv => lhs; rw [e, u8_of hc (by omega)]
  rfl
theorem flen_no (s : ByteArray) (h : 0 < s.size) (hc : s[0].toNat ≠ 91) : flen s.data.toList = base (s.data.toList.drop 0) := by
  have e := drop_at s 0 h
  rw [List.drop_zero] at e ⊢
  conv => lhs; rw [e]
  conv => rhs; rw [e]
  unfold flen
  simp only
  rw [if_neg (by intro e; rw [e] at hc; exact hc rfl)]
theorem semi_at (s : ByteArray) (m k : Nat) (h : m + k < s.size) : (s.data.toList.drop m)[k]? = some 59 ↔ s[m + k].toNat = 59 := by
  rw [List.getElem?_drop, at_get s (m + k) h]
  simp only [Option.some.injEq]
  constructor
  · intro e; rw [e]; rfl
  · intro e; rw [u8_of e (by omega)]; rfl
theorem toList_ne (s : ByteArray) (h : 0 < s.size) : (s.toList == []) = false := by
  rw [Lib.toList_data]
  have : s.data.toList ≠ [] := by intro e; rw [size_len, e] at h; simp at h
  simpa using this

end Go.Proofs.Ytlnapfeglbdecaa.P3.D
namespace Go.Proofs.Ytlnapfeglbdecaa.P3.D
open Go.RowKit
def str (l : Bs) : ByteArray := ⟨l.toArray⟩
theorem str_data (s : ByteArray) : str s.data.toList = s := by cases s; rfl
theorem data_str (l : Bs) : (str l).data.toList = l := rfl
theorem str_size (l : Bs) : (str l).size = l.length := by rw [size_len]; rfl
theorem ext_str (s : ByteArray) (a b : Nat) : s.extract a b = str ((s.data.toList.drop a).take (b - a)) := Lib.extract_eq s a b
theorem ext_end (s : ByteArray) (n : Nat) : s.extract n s.size = str (s.data.toList.drop n) := by rw [← str_data (s.extract n s.size), ext_data]


def nameB (l : Bs) : Bool := decide (0 < nl l ∧ nl l = l.length)
def fieldB (l : Bs) : Bool := decide (0 < flen l ∧ flen l = l.length)
theorem nameB_iff (l : Bs) : nameB l = true ↔ isName l := by rw [isName_iff]; simp [nameB]
theorem fieldB_iff (l : Bs) : fieldB l = true ↔ Fld l := by rw [fld_iff]; simp [fieldB]
def elemZ (l : Bs) : Bs × Bool := if fieldB l = true ∧ l[0]? = some 91 then (l.drop 1, true) else ([], false)

theorem ret_bool {a b : Bool} (h : a = b) : Ending.returned (.bool a) = .returned (.bool b) := by rw [h]

theorem at0 (s : ByteArray) (h : 0 < s.size) (n : Nat) (hn : n < 256) : s.data.toList[0]? = some (UInt8.ofNat n) ↔ s[0].toNat = n := by
  rw [at_get s 0 h]
  simp only [Option.some.injEq]
  constructor
  · intro e; rw [e]; simp; omega
  · intro e; exact u8_of e hn

end Go.Proofs.Ytlnapfeglbdecaa.P3.D
namespace Go.Proofs.Ytlnapfeglbdecaa.P3.D
open Go.RowKit
theorem Try.info9 : (Try.prog.info? 9).map (fun i => (i.zero, i.size, i.bytes)) = some (some (.string ⟨#[]⟩), 1, 16) := by kernel_rfl
def scells (ps : List Bs) : List Value := ps.map fun p => Value.string (str p)
theorem scells_snoc (ps : List Bs) (p : Bs) : scells (ps ++ [p]) = scells ps ++ [Value.string (str p)] := by simp [scells]
theorem own_slice {w : World} {B n e : Nat} {v : Value} {xs : List Value} (h : w.ownsRow B e 1 v n xs) : ∃ ao cap, v = .slice ao n cap := by
  rcases h.2 with ⟨rfl, rfl⟩ | ⟨g, cap, cur, rfl, _⟩
  · exact ⟨_, _, rfl⟩
  · exact ⟨_, _, rfl⟩

structure Took (l : Bs) (ps : List Bs) (S : ByteArray) : Prop where
  eq : l = ps.flatten ++ S.data.toList
  fld : ∀ p ∈ ps, Fld p
theorem Took.more {l : Bs} {ps : List Bs} {S : ByteArray} (h : Took l ps S) (h0 : flen S.data.toList ≠ 0) :
    Took l (ps ++ [S.data.toList.take (flen S.data.toList)]) (S.extract (flen S.data.toList) S.size) := by
  refine ⟨?_, ?_⟩
  · rw [h.eq, ext_data]; simp
  · intro p hp
    rcases List.mem_append.1 hp with hp | hp
    · exact h.fld p hp
    · simp at hp; subst hp; exact flen_take h0


def MethAns (l : Bs) (B : Nat) (e : Ending) (w' : World) : Prop :=
  (∃ ps r v, meth l = some (ps, r) ∧ e = .returned (.tuple #[v, .string (str r), .bool true]) ∧ w'.ownsRow B 9 1 v ps.length (scells ps)) ∨
  (meth l = none ∧ e = .returned (.tuple #[.slice none 0 0, .string ⟨#[]⟩, .bool false]))

end Go.Proofs.Ytlnapfeglbdecaa.P3.D
namespace Go.Proofs.Ytlnapfeglbdecaa.P3
open Go.RowKit D
structure CD where
  kind : Int
  n : Int
  cls : ByteArray
  nm : ByteArray
  dsc : ByteArray
def CD.cells (c : CD) : List Value := [.int .i64 c.kind, .int .i32 c.n, .string c.cls, .string c.nm, .string c.dsc]
def CD.val (c : CD) : Value := .agg #[.int .i64 c.kind, .int .i32 c.n, .string c.cls, .string c.nm, .string c.dsc]
structure CD.Fits (c : CD) : Prop where
  c3 : c.cls.size ≤ 9223372036854775807
  c4 : c.nm.size ≤ 9223372036854775807
  c5 : c.dsc.size ≤ 9223372036854775807

abbrev bsB (s : ByteArray) : Bs := s.data.toList
def emptyB (s : ByteArray) : Bool := s.toList.isEmpty
def classB (s : ByteArray) : Bool := (elemZ (bsB s)).2 || nameB (bsB s)
def memberB (c : CD) : Bool := nameB (bsB c.cls) && nameB (bsB c.nm)
def methodB (s : ByteArray) : Bool := (meth (bsB s)).isSome && decide (s.size ≤ 256)
def rightB (c : CD) : Bool :=
  if c.kind = 3 then emptyB c.cls && emptyB c.nm && emptyB c.dsc
  else if c.kind = 7 then decide (c.n = 0) && classB c.cls && emptyB c.nm && emptyB c.dsc
  else if c.kind = 9 then decide (c.n = 0) && memberB c && fieldB (bsB c.dsc)
  else if c.kind = 10 then decide (c.n = 0) && memberB c && methodB c.dsc
  else false

theorem ret_b {a b : Bool} (h : a = b) : Ending.returned (.bool a) = .returned (.bool b) := by rw [h]

end Go.Proofs.Ytlnapfeglbdecaa.P3
namespace Go.Proofs.Ytlnapfeglbdecaa.P3
open Go.RowKit
def Moved (H : Nat) (v v' : Value) : Prop := v'.ownBlock = v.ownBlock ∨ ∃ g, v'.ownBlock = some g ∧ H ≤ g

structure Step (v : Value) (w : World) (v' : Value) (w' : World) : Prop where
  grown : w.grownBy w' v.ownBlock
  moved : Moved w.heap.size v v'

theorem Step.refl (v : Value) (w : World) : Step v w v w := ⟨⟨rfl, rfl, rfl, Nat.le_refl _, fun _ _ _ => rfl⟩, .inl rfl⟩

theorem Step.trans {v v1 v2 : Value} {w w1 w2 : World} (h : Step v w v1 w1) (k : Step v1 w1 v2 w2) : Step v w v2 w2 := by
  refine ⟨⟨k.grown.os.trans h.grown.os, k.grown.tape.trans h.grown.tape, k.grown.output.trans h.grown.output, Nat.le_trans h.grown.size k.grown.size, ?_⟩, ?_⟩
  · intro i hi hne
    have h1 := h.grown.block i hi hne
    have hlt : i < w1.heap.size := Nat.lt_of_lt_of_le hi h.grown.size
    rw [k.grown.block i hlt ?_, h1]
    rcases h.moved with e | ⟨g, e, hg⟩
    · rw [e]; exact hne
    · rw [e]; intro e2; cases e2; omega
  · rcases k.moved with e | ⟨g, e, hg⟩
    · rcases h.moved with e1 | ⟨g1, e1, hg1⟩
      · exact .inl (e.trans e1)
      · exact .inr ⟨g1, e.trans e1, hg1⟩
    · exact .inr ⟨g, e, Nat.le_trans h.grown.size hg⟩

theorem Step.before_alloc {v v' : Value} {w w' : World} {o : Obj} (h : Step v (w.alloc o) v' w') : Step v w v' w' := by
  have hz : (w.alloc o).heap.size = w.heap.size + 1 := by simp
  refine ⟨⟨h.grown.os, h.grown.tape, h.grown.output, by have := h.grown.size; omega, fun i hi hne => ?_⟩, ?_⟩
  · rw [h.grown.block i (by omega) hne]; exact Below.heap_alloc w o i hi
  · rcases h.moved with e | ⟨g, e, hg⟩
    · exact .inl e
    · exact .inr ⟨g, e, by omega⟩

theorem Step.of_alloc {v v' : Value} {w w' : World} {o : Obj} (hg : (w.alloc o).grownBy w' v.ownBlock) (ha : v'.ownBlock = v.ownBlock ∨ v'.ownBlock = some (w.heap.size + 1)) : Step v w v' w' :=
  Step.before_alloc (o := o) ⟨hg, ha.imp id fun e => ⟨_, e, by simp⟩⟩


theorem Step.of_at {v v' : Value} {w w' : World} (hg : w.grownBy w' v.ownBlock) (ha : v'.ownBlock = v.ownBlock ∨ v'.ownBlock = some w.heap.size) : Step v w v' w' :=
  ⟨hg, ha.imp id fun e => ⟨_, e, Nat.le_refl _⟩⟩

theorem Step.below {v v' : Value} {w w' : World} (h : Step v w v' w') {B : Nat} (hB : B ≤ w.heap.size) (hv : ∀ k, v.ownBlock = some k → B ≤ k) : Below B w w' :=
  (Below.refl _ _).grown h.grown hB hv

theorem Try.info5 : (Try.prog.info? 5).map (fun i => (i.zero, i.size, i.bytes)) = some (some (.int .u8 0), 1, 1) := by kernel_rfl

theorem ret_int {k : IntKind} {a b : Int} (h : a = b) : Ending.returned (.int k a) = .returned (.int k b) := by rw [h]


def bcells (l : List Int) : List Value := l.map (Value.int .u8)
theorem bcells_append (a b : List Int) : bcells (a ++ b) = bcells a ++ bcells b := by simp [bcells]
theorem hidIt {p : Prop} (h : p) : Hid p := h

end Go.Proofs.Ytlnapfeglbdecaa.P3
namespace Go.Proofs.Ytlnapfeglbdecaa.P3
open Go.RowKit
def ceq (c d : CD) : Bool := (c.kind == d.kind) && (c.n == d.n) && (c.cls.toList == d.cls.toList) && (c.nm.toList == d.nm.toList) && (c.dsc.toList == d.dsc.toList)
theorem run_ceq (w : World) (c d : CD) : (binOp .eql 99 c.val d.val).run Try.prog w = .ok (.bool (ceq c d)) w := by
  unfold CD.val ceq
  go_simp
  by_cases h1 : c.kind = d.kind
  · by_cases h2 : c.n = d.n
    · by_cases h3 : c.cls.toList = d.cls.toList
      · by_cases h4 : c.nm.toList = d.nm.toList
        · by_cases h5 : c.dsc.toList = d.dsc.toList <;> simp [h1, h2, h3, h4, h5]
        · simp [h1, h2, h3, h4]
      · simp [h1, h2, h3]
    · simp [h1, h2]
  · simp [h1]
theorem bytes_ext {a b : ByteArray} (h : a.toList = b.toList) : a = b := by
  rw [Lib.toList_data, Lib.toList_data] at h
  rw [← D.str_data a, ← D.str_data b, h]
theorem ceq_iff (c d : CD) : ceq c d = true ↔ c = d := by
  constructor
  · intro h
    simp only [ceq, Bool.and_eq_true, beq_iff_eq] at h
    obtain ⟨⟨⟨⟨h1, h2⟩, h3⟩, h4⟩, h5⟩ := h
    cases c; cases d
    simp only at h1 h2 h3 h4 h5
    rw [h1, h2, bytes_ext h3, bytes_ext h4, bytes_ext h5]
  · rintro rfl; simp [ceq]

structure CD.Ok (c : CD) : Prop extends c.Fits where
  nlo : -2147483648 ≤ c.n
  nhi : c.n ≤ 2147483647

structure CAt (w : World) (g o : Nat) (c : CD) : Prop where
  c0 : w.cell? ⟨g, o, none⟩ = some (.int .i64 c.kind)
  c1 : w.cell? ⟨g, o + 1, none⟩ = some (.int .i32 c.n)
  c2 : w.cell? ⟨g, o + 2, none⟩ = some (.string c.cls)
  c3 : w.cell? ⟨g, o + 3, none⟩ = some (.string c.nm)
  c4 : w.cell? ⟨g, o + 4, none⟩ = some (.string c.dsc)
theorem CAt.below {w wr : World} {g o : Nat} {c : CD} (h : CAt w g o c) (hb : Below w.heap.size w wr) : CAt wr g o c :=
  ⟨cell_later hb h.c0, cell_later hb h.c1, cell_later hb h.c2, cell_later hb h.c3, cell_later hb h.c4⟩
theorem CAt.block {w wr : World} {g o : Nat} {c : CD} (h : CAt w g o c) (hb : wr.heap[g]? = w.heap[g]?) : CAt wr g o c := by
  have k : ∀ o, wr.cell? ⟨g, o, none⟩ = w.cell? ⟨g, o, none⟩ := fun o => World.cell?_of_block (a := ⟨g, o, none⟩) hb
  exact ⟨(k _).trans h.c0, (k _).trans h.c1, (k _).trans h.c2, (k _).trans h.c3, (k _).trans h.c4⟩
def CLies (w : World) (g off : Nat) (l : List CD) : Prop := ∀ (i : Nat) c, l[i]? = some c → CAt w g (off + i * 5) c
def CView (w : World) (v : Value) (l : List CD) : Prop :=
  ∃ ao cap, v = .slice ao l.length cap ∧ l.length ≤ cap ∧ cap ≤ maxLen ∧ (∀ c ∈ l, c.Ok) ∧ (l = [] ∨ ∃ g off, ao = some ⟨g, off, none⟩ ∧ CLies w g off l)
theorem CView.below {w wr : World} {v : Value} {l : List CD} (h : CView w v l) (hb : Below w.heap.size w wr) : CView wr v l := by
  obtain ⟨ao, cap, rfl, hc, hm, hk, hl⟩ := h
  refine ⟨ao, cap, rfl, hc, hm, hk, ?_⟩
  rcases hl with h | ⟨g, off, e, hl⟩
  · exact .inl h
  · exact .inr ⟨g, off, e, fun i c hi => (hl i c hi).below hb⟩
theorem CView.drewN {w : World} {v : Value} {l : List CD} (h : CView w v l) (q : Nat) : CView (w.drewN q) v l := by
  obtain ⟨ao, cap, rfl, hc, hm, hk, hl⟩ := h
  refine ⟨ao, cap, rfl, hc, hm, hk, ?_⟩
  rcases hl with h | ⟨g, off, e, hl⟩
  · exact .inl h
  · exact .inr ⟨g, off, e, fun i c hi => (hl i c hi).block rfl⟩
theorem CView.ok {w : World} {v : Value} {l : List CD} (h : CView w v l) : ∀ c ∈ l, c.Ok := by obtain ⟨_, _, _, _, _, h, _⟩ := h; exact h
theorem CView.nil (w : World) : CView w (.slice none 0 0) [] := ⟨none, 0, rfl, Nat.le_refl _, by unfold maxLen; omega, by simp, .inl rfl⟩

def ccells (l : List CD) : List Value := l.flatMap CD.cells
theorem ccells_cons (c : CD) (l : List CD) : ccells (c :: l) = c.cells ++ ccells l := rfl
theorem ccells_append (a b : List CD) : ccells (a ++ b) = ccells a ++ ccells b := by simp [ccells]
theorem ccells_len (l : List CD) : (ccells l).length = l.length * 5 := by
  induction l with
  | nil => rfl
  | cons c l ih => rw [ccells_cons, List.length_append, ih]; simp [CD.cells]; omega
theorem ccells_one (l : List CD) : ∀ u ∈ ccells l, u.oneCell' = true := by
  intro u hu
  simp only [ccells, List.mem_flatMap, CD.cells] at hu
  obtain ⟨c, _, hu⟩ := hu
  simp at hu
  rcases hu with rfl | rfl | rfl | rfl | rfl <;> rfl
theorem ccells_get : ∀ (l : List CD) (i : Nat) (c : CD), l[i]? = some c → ∀ j, j < 5 → (ccells l)[i * 5 + j]? = c.cells[j]? := by
  intro l
  induction l with
  | nil => intro i c h; simp at h
  | cons d l ih =>
    intro i c h j hj
    rw [ccells_cons]
    cases i with
    | zero =>
      simp at h; subst h
      rw [Nat.zero_mul, Nat.zero_add]
      exact List.getElem?_append_left (by simp [CD.cells]; omega)
    | succ i =>
      have hi : l[i]? = some c := by simpa using h
      rw [List.getElem?_append_right (by simp [CD.cells]; omega)]
      have e : (i + 1) * 5 + j - d.cells.length = i * 5 + j := by simp [CD.cells]; omega
      rw [e]
      exact ih i c hi j hj
theorem addr_add (g off j : Nat) : (⟨g, off, none⟩ : Addr).add j = ⟨g, off + j, none⟩ := by unfold Addr.add; split <;> simp_all
theorem CLies.cells {w : World} {g off : Nat} {l : List CD} (h : CLies w g off l) (j : Nat) (u : Value) (hj : (ccells l)[j]? = some u) : w.cell? ((⟨g, off, none⟩ : Addr).add j) = some u := by
  rw [addr_add]
  have hlt : j < l.length * 5 := by rw [← ccells_len]; exact (List.getElem?_eq_some_iff.1 hj).1
  have hi : j / 5 < l.length := by omega
  obtain ⟨c, hc⟩ : ∃ c, l[j / 5]? = some c := ⟨_, List.getElem?_eq_getElem hi⟩
  have e := ccells_get l (j / 5) c hc (j % 5) (by omega)
  rw [show j / 5 * 5 + j % 5 = j by omega, hj] at e
  have hA := h (j / 5) c hc
  have h5 : j % 5 < 5 := by omega
  have ej : off + j = off + j / 5 * 5 + j % 5 := by omega
  rw [ej]
  generalize j % 5 = r at *
  generalize off + j / 5 * 5 = o at *
  match r, h5, e with
  | 0, _, e => simp [CD.cells] at e; subst e; exact hA.c0
  | 1, _, e => simp [CD.cells] at e; subst e; exact hA.c1
  | 2, _, e => simp [CD.cells] at e; subst e; exact hA.c2
  | 3, _, e => simp [CD.cells] at e; subst e; exact hA.c3
  | 4, _, e => simp [CD.cells] at e; subst e; exact hA.c4
theorem CLies.of_cells {w : World} {g off : Nat} {l : List CD} (h : ∀ j u, (ccells l)[j]? = some u → w.cell? ((⟨g, off, none⟩ : Addr).add j) = some u) : CLies w g off l := by
  intro i c hi
  have k := fun j (hj : j < 5) u (hu : c.cells[j]? = some u) => by
    have := h (i * 5 + j) u ((ccells_get l i c hi j hj).trans hu)
    rw [addr_add, ← Nat.add_assoc] at this
    exact this
  exact ⟨k 0 (by omega) _ rfl, k 1 (by omega) _ rfl, k 2 (by omega) _ rfl, k 3 (by omega) _ rfl, k 4 (by omega) _ rfl⟩
theorem CView.of_own {w : World} {B : Nat} {v : Value} {l : List CD} (h : w.ownsRow B 99 5 v l.length (ccells l)) (hk : ∀ c ∈ l, c.Ok) : CView w v l := by
  rcases h.2 with ⟨rfl, h0⟩ | ⟨g, cap, cur, rfl, _, hg, h1, h2, h3, h4⟩
  · have : l = [] := List.length_eq_zero_iff.1 h0
    subst this
    exact CView.nil w
  · exact ⟨some ⟨g, 0, none⟩, cap, rfl, h1, h2, hk, .inr ⟨g, 0, rfl, CLies.of_cells (h.cells (g := g) rfl)⟩⟩
theorem cown_slice {w : World} {B n : Nat} {v : Value} {xs : List Value} (h : w.ownsRow B 99 5 v n xs) : ∃ ao cap, v = .slice ao n cap := by
  rcases h.2 with ⟨rfl, rfl⟩ | ⟨g, cap, cur, rfl, _⟩
  · exact ⟨_, _, rfl⟩
  · exact ⟨_, _, rfl⟩

def zeroC : CD := ⟨0, 0, ⟨#[]⟩, ⟨#[]⟩, ⟨#[]⟩⟩


theorem Try.info99 : (Try.prog.info? 99).map (fun i => (i.zero, i.size, i.bytes)) = some (some zeroC.val, 5, 64) := by kernel_rfl

end Go.Proofs.Ytlnapfeglbdecaa.P3
namespace Go.Proofs.Ytlnapfeglbdecaa.P3
open Go.RowKit
def idxO (c : CD) : List CD → Option Nat
  | [] => none
  | d :: l => if ceq c d = true then some 0 else (idxO c l).map (· + 1)
theorem idxO_some {c : CD} : ∀ {l : List CD} {k : Nat} {d : CD}, l[k]? = some d → ceq c d = true → (∀ x ∈ l.take k, ceq c x = false) → idxO c l = some k := by
  intro l
  induction l with
  | nil => intro k d h; simp at h
  | cons x l ih =>
    intro k d h he hn
    cases k with
    | zero => simp at h; subst h; simp [idxO, he]
    | succ k =>
      have hx := hn x (by simp)
      simp only [idxO, hx, Bool.false_eq_true, if_false]
      rw [ih (k := k) (d := d) (by simpa using h) he (fun y hy => hn y (by simp [hy]))]
      rfl
theorem idxO_none {c : CD} {l : List CD} (hn : ∀ x ∈ l, ceq c x = false) : idxO c l = none := by
  induction l with
  | nil => rfl
  | cons x l ih =>
    simp only [idxO, hn x (by simp), Bool.false_eq_true, if_false]
    rw [ih (fun y hy => hn y (by simp [hy]))]
    rfl
theorem box_at (w : World) (c : CD) : CAt (w.alloc (.cells #[.int .i64 c.kind, .int .i32 c.n, .string c.cls, .string c.nm, .string c.dsc] 99)) w.heap.size 0 c := by
  have h := heap_alloc_new w (.cells #[.int .i64 c.kind, .int .i32 c.n, .string c.cls, .string c.nm, .string c.dsc] 99)
  constructor
  all_goals rw [cell_of_row _ _ _ _ 99 (0, 0) h]; rfl

theorem below_drewN {B : Nat} {w W : World} (h : Below B w W) (q : Nat) : Below B w (W.drewN q) := ⟨h.os, h.tape, h.output, h.size, h.block⟩

end Go.Proofs.Ytlnapfeglbdecaa.P3
