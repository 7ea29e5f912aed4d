/- Texts QDDM QDDW QDDF QDDG QShelfS. -/
import Derived.Test.YtccbgdbipihoaaaProg
import Derived.WalkKit
import Derived.WalkSpells
import Derived.WalkLawsBesides
import Derived.Maps.AppendAt
import Derived.WalkMore
import Derived.Lib.Strings
import Derived.Shelf.Small.Wraps
import Derived.Shelf.Strings.Prefix
import Derived.Ground.NamesProg
namespace Go.Proofs.Ytccbgdbipihoaaa.Q.D
open Go.RowKit
abbrev Bs := List UInt8
def isL (c : UInt8) : Bool := decide (97 ≤ c.toNat ∧ c.toNat ≤ 122 ∨ 65 ≤ c.toNat ∧ c.toNat ≤ 90 ∨ c.toNat = 95 ∨ c.toNat = 36)
def isD (c : UInt8) : Bool := decide (48 ≤ c.toNat ∧ c.toNat ≤ 57)
def okc (k : Nat) (c : UInt8) : Bool := isL c || (isD c && decide (0 < k))

def isName (l : Bs) : Prop := 1 ≤ l.length ∧ l.length ≤ 64 ∧ ∀ j c, l[j]? = some c → okc j c = true

def nlA : Nat → Nat → Bs → Nat
  | 0, _, _ => 0
  | _ + 1, _, [] => 0
  | m + 1, k, c :: t => if okc k c then nlA m (k + 1) t + 1 else 0
def nl (l : Bs) : Nat := nlA 64 0 l

theorem nlA_char : ∀ (m k : Nat) (l : Bs) (n : Nat), n ≤ m → (∀ j, j < n → ∃ c, l[j]? = some c ∧ okc (k + j) c = true) →
    (n = m ∨ ∀ c, l[n]? = some c → okc (k + n) c = false) → nlA m k l = n := by
  intro m
  induction m with
  | zero => intro k l n h _ _; simp [nlA]; omega
  | succ m ih =>
    intro k l n hn hok hst
    cases l with
    | nil =>
      simp only [nlA]
      cases n with
      | zero => rfl
      | succ n => obtain ⟨c, h, _⟩ := hok 0 (by omega); simp at h
    | cons c t =>
      simp only [nlA]
      cases n with
      | zero =>
        rcases hst with h | h
        · omega
        · have := h c rfl
          simp only [Nat.add_zero] at this
          rw [this]; rfl
      | succ n =>
        obtain ⟨c', h1, h2⟩ := hok 0 (by omega)
        simp at h1; subst h1
        simp only [Nat.add_zero] at h2
        rw [h2, if_pos rfl, ih (k + 1) t n (by omega) ?_ ?_]
        · intro j hj
          obtain ⟨c', h1, h2⟩ := hok (j + 1) (by omega)
          exact ⟨c', by simpa using h1, by rw [show k + 1 + j = k + (j + 1) by omega]; exact h2⟩
        · rcases hst with h | h
          · left; omega
          · right; intro c' h1
            rw [show k + 1 + n = k + (n + 1) by omega]
            exact h c' (by simpa using h1)

theorem nl_char {l : Bs} {n : Nat} (hn : n ≤ 64) (hok : ∀ j, j < n → ∃ c, l[j]? = some c ∧ okc j c = true)
    (hst : n = 64 ∨ ∀ c, l[n]? = some c → okc n c = false) : nl l = n :=
  nlA_char 64 0 l n hn (fun j hj => by rw [Nat.zero_add]; exact hok j hj) (by rw [Nat.zero_add]; exact hst)

theorem nlA_le : ∀ (m k : Nat) (l : Bs), nlA m k l ≤ m ∧ nlA m k l ≤ l.length ∧ ∀ j, j < nlA m k l → ∃ c, l[j]? = some c ∧ okc (k + j) c = true := by
  intro m
  induction m with
  | zero => intro k l; simp [nlA]
  | succ m ih =>
    intro k l
    cases l with
    | nil => simp [nlA]
    | cons c t =>
      simp only [nlA]
      by_cases h : okc k c = true
      · rw [if_pos h]
        obtain ⟨h1, h2, h3⟩ := ih (k + 1) t
        refine ⟨by omega, by simp; omega, ?_⟩
        intro j hj
        cases j with
        | zero => exact ⟨c, rfl, by simpa using h⟩
        | succ j =>
          obtain ⟨c', h4, h5⟩ := h3 j (by omega)
          exact ⟨c', by simpa using h4, by rw [show k + (j + 1) = k + 1 + j by omega]; exact h5⟩
      · rw [if_neg h]; simp

theorem nl_le64 (l : Bs) : nl l ≤ 64 := (nlA_le 64 0 l).1
theorem nl_le (l : Bs) : nl l ≤ l.length := (nlA_le 64 0 l).2.1
theorem nl_ok {l : Bs} {j : Nat} (h : j < nl l) : ∃ c, l[j]? = some c ∧ okc j c = true := by
  have := (nlA_le 64 0 l).2.2 j h
  rwa [Nat.zero_add] at this

theorem name_take {l : Bs} (h : 0 < nl l) : isName (l.take (nl l)) := by
  have h1 := nl_le64 l
  have h2 := nl_le l
  refine ⟨by simp; omega, by simp; omega, ?_⟩
  intro j c hj
  rw [List.getElem?_take] at hj
  split at hj
  · obtain ⟨c', h3, h4⟩ := nl_ok (l := l) (by assumption)
    rw [h3] at hj; cases hj; exact h4
  · cases hj

theorem okc_semi (k : Nat) : okc k 59 = false := by unfold okc; simp [isL, isD]
theorem nl_name {nm rest : Bs} (h : isName nm) : nl (nm ++ 59 :: rest) = nm.length := by
  obtain ⟨h1, h2, h3⟩ := h
  refine nl_char h2 ?_ ?_
  · intro j hj
    have : (nm ++ 59 :: rest)[j]? = nm[j]? := List.getElem?_append_left hj
    rw [this, List.getElem?_eq_getElem hj]
    exact ⟨_, rfl, h3 j _ (List.getElem?_eq_getElem hj)⟩
  · right
    intro c hc
    rw [List.getElem?_append_right (Nat.le_refl _)] at hc
    simp at hc; subst hc; exact okc_semi _

def base (l : Bs) : Nat :=
  match l with
  | [] => 0
  | c :: t => if c = 73 then 1 else if c = 76 then (if 0 < nl t ∧ t[nl t]? = some 59 then nl t + 2 else 0) else 0
def flen (l : Bs) : Nat :=
  match l with
  | [] => 0
  | c :: t => if c = 91 then (if base t = 0 then 0 else base t + 1) else base (c :: t)

def Plain (f : Bs) : Prop := f = [73] ∨ ∃ nm, isName nm ∧ f = 76 :: (nm ++ [59])
def Fld (f : Bs) : Prop := Plain f ∨ ∃ g, Plain g ∧ f = 91 :: g

theorem base_of {f : Bs} (h : Plain f) (rest : Bs) : base (f ++ rest) = f.length := by
  rcases h with rfl | ⟨nm, hn, rfl⟩
  · simp [base]
  · have e : nl (nm ++ 59 :: rest) = nm.length := nl_name hn
    have h1 := hn.1
    have e2 : (nm ++ 59 :: rest)[nm.length]? = some 59 := by rw [List.getElem?_append_right (Nat.le_refl _)]; simp
    simp only [List.cons_append, List.append_assoc, List.nil_append, base]
    rw [e, if_neg (by decide), if_pos trivial, if_pos ⟨by omega, e2⟩]
    simp
theorem base_zero {l : Bs} (h : base l ≠ 0) : ∃ f rest, Plain f ∧ l = f ++ rest ∧ base l = f.length := by
  cases l with
  | nil => exact absurd rfl h
  | cons c t =>
    unfold base at h ⊢
    simp only at h ⊢
    by_cases c1 : c = 73
    · subst c1
      exact ⟨[73], t, .inl rfl, rfl, by simp⟩
    · rw [if_neg c1] at h ⊢
      by_cases c2 : c = 76
      · subst c2
        rw [if_pos rfl] at h ⊢
        by_cases c3 : 0 < nl t ∧ t[nl t]? = some 59
        · rw [if_pos c3]
          obtain ⟨c3, c4⟩ := c3
          have hlt : nl t < t.length := by
            rcases Nat.lt_or_ge (nl t) t.length with h | h
            · exact h
            · rw [List.getElem?_eq_none h] at c4; cases c4
          have e : t = t.take (nl t) ++ 59 :: t.drop (nl t + 1) := by
            conv => lhs; rw [← List.take_append_drop (nl t) t]
            rw [List.drop_eq_getElem_cons hlt]
            rw [List.getElem?_eq_getElem hlt] at c4
            simp only [Option.some.injEq] at c4
            rw [c4]
          refine ⟨76 :: (t.take (nl t) ++ [59]), t.drop (nl t + 1), .inr ⟨_, name_take c3, rfl⟩, ?_, ?_⟩
          · conv => lhs; rw [e]
            simp
          · simp; omega
        · rw [if_neg c3] at h; exact absurd rfl h
      · rw [if_neg c2] at h; exact absurd rfl h
theorem plain_head {g : Bs} (h : Plain g) : ∃ c t, g = c :: t ∧ (c = 73 ∨ c = 76) := by
  rcases h with rfl | ⟨nm, _, rfl⟩
  · exact ⟨_, _, rfl, .inl rfl⟩
  · exact ⟨_, _, rfl, .inr rfl⟩
theorem plain_pos {g : Bs} (h : Plain g) : 0 < g.length := by obtain ⟨c, t, rfl, _⟩ := plain_head h; simp
theorem flen_of {f : Bs} (h : Fld f) (rest : Bs) : flen (f ++ rest) = f.length := by
  rcases h with h | ⟨g, h, rfl⟩
  · have e := base_of h rest
    obtain ⟨c, t, rfl, hc⟩ := plain_head h
    rw [List.cons_append] at e ⊢
    unfold flen
    simp only
    rw [if_neg (by rcases hc with rfl | rfl <;> decide), e]
  · have e := base_of h rest
    have hp := plain_pos h
    rw [List.cons_append]
    unfold flen
    simp only
    rw [if_pos trivial, e, if_neg (by omega)]
    simp
theorem flen_zero {l : Bs} (h : flen l ≠ 0) : ∃ f rest, Fld f ∧ l = f ++ rest ∧ flen l = f.length := by
  cases l with
  | nil => exact absurd rfl h
  | cons c t =>
    unfold flen at h ⊢
    simp only at h ⊢
    by_cases c1 : c = 91
    · subst c1
      rw [if_pos rfl] at h ⊢
      by_cases c2 : base t = 0
      · rw [if_pos c2] at h; exact absurd rfl h
      · rw [if_neg c2]
        obtain ⟨f, r, h1, h2, h3⟩ := base_zero c2
        exact ⟨91 :: f, r, .inr ⟨f, h1, rfl⟩, by rw [h2]; rfl, by rw [h3]; simp⟩
    · rw [if_neg c1] at h ⊢
      obtain ⟨f, r, h1, h2, h3⟩ := base_zero h
      exact ⟨f, r, .inl h1, h2, h3⟩
theorem fld_pos {f : Bs} (h : Fld f) : 0 < f.length := by
  rcases h with h | ⟨g, h, rfl⟩
  · exact plain_pos h
  · simp
theorem plain_len {f : Bs} (h : Plain f) : f.length ≤ 66 := by
  rcases h with rfl | ⟨nm, h, rfl⟩
  · simp
  · have := h.2.1; simp; omega
theorem fld_len {f : Bs} (h : Fld f) : f.length ≤ 67 := by
  rcases h with h | ⟨g, h, rfl⟩
  · have := plain_len h; omega
  · have := plain_len h; simp; omega
theorem flen_le (l : Bs) : flen l ≤ l.length ∧ flen l ≤ 67 := by
  by_cases h : flen l = 0
  · omega
  · obtain ⟨f, r, h1, h2, h3⟩ := flen_zero h
    have := fld_len h1
    refine ⟨?_, by omega⟩
    rw [h3, h2]; simp
theorem fld_iff (l : Bs) : Fld l ↔ 0 < flen l ∧ flen l = l.length := by
  constructor
  · intro h
    have := flen_of h []
    rw [List.append_nil] at this
    have := fld_pos h
    omega
  · rintro ⟨h1, h2⟩
    obtain ⟨f, r, h3, h4, h5⟩ := flen_zero (l := l) (by omega)
    have : r = [] := by
      have := congrArg List.length h4
      rw [List.length_append] at this
      exact List.eq_nil_of_length_eq_zero (by omega)
    rw [h4, this, List.append_nil]; exact h3
theorem flen_take {l : Bs} (h : flen l ≠ 0) : Fld (l.take (flen l)) := by
  obtain ⟨f, r, h3, h4, h5⟩ := flen_zero h
  rw [h5, h4, List.take_left]; exact h3

def lead : Nat → Bs → List Bs × Bs
  | 0, l => ([], l)
  | m + 1, l => if flen l = 0 then ([], l) else (l.take (flen l) :: (lead m (l.drop (flen l))).1, (lead m (l.drop (flen l))).2)
theorem lead_char : ∀ (m : Nat) (ps : List Bs) (rest : Bs), (∀ p ∈ ps, Fld p) → ps.length ≤ m → (ps.length = m ∨ flen rest = 0) → lead m (ps.flatten ++ rest) = (ps, rest) := by
  intro m
  induction m with
  | zero => intro ps rest _ h _; obtain rfl : ps = [] := List.eq_nil_of_length_eq_zero (by omega); rfl
  | succ m ih =>
    intro ps rest hp hl hr
    cases ps with
    | nil =>
      rcases hr with h | h
      · simp at h
      · simp [lead, h]
    | cons p ps =>
      have hf := hp p (by simp)
      have e : flen ((p :: ps).flatten ++ rest) = p.length := by rw [List.flatten_cons, List.append_assoc]; exact flen_of hf _
      have hpos := fld_pos hf
      have ih' := ih ps rest (fun q hq => hp q (by simp [hq])) (by simpa using hl) (by simpa using hr)
      unfold lead
      rw [e, if_neg (by omega), List.flatten_cons, List.append_assoc, List.take_left, List.drop_left, ih']
theorem lead_inv : ∀ (m : Nat) (l : Bs), (∀ p ∈ (lead m l).1, Fld p) ∧ (lead m l).1.length ≤ m ∧ l = (lead m l).1.flatten ++ (lead m l).2 ∧ ((lead m l).1.length = m ∨ flen (lead m l).2 = 0) := by
  intro m
  induction m with
  | zero => intro l; simp [lead]
  | succ m ih =>
    intro l
    unfold lead
    by_cases h : flen l = 0
    · rw [if_pos h]; simp [h]
    · rw [if_neg h]
      obtain ⟨h1, h2, h3, h4⟩ := ih (l.drop (flen l))
      refine ⟨?_, by simpa using h2, ?_, by simpa using h4⟩
      · intro p hp
        rcases List.mem_cons.1 hp with rfl | hp
        · exact flen_take h
        · exact h1 p hp
      · show l = (_ :: _).flatten ++ _
        rw [List.flatten_cons, List.append_assoc, ← h3, List.take_append_drop]

def meth (l : Bs) : Option (List Bs × Bs) :=
  match l with
  | [] => none
  | c :: t => if c = 40 then
      (match (lead 8 t).2 with
       | [] => none
       | d :: r => if d = 41 then (if r = [86] ∨ (0 < flen r ∧ flen r = r.length) then some ((lead 8 t).1, r) else none) else none)
    else none
def Meth (l : Bs) (ps : List Bs) (r : Bs) : Prop := l = 40 :: (ps.flatten ++ 41 :: r) ∧ (∀ p ∈ ps, Fld p) ∧ ps.length ≤ 8 ∧ (r = [86] ∨ Fld r)
theorem meth_inv {l : Bs} {ps : List Bs} {r : Bs} (h : meth l = some (ps, r)) : Meth l ps r := by
  unfold meth at h
  split at h
  · cases h
  · rename_i c t
    split at h
    · rename_i hc
      subst hc
      obtain ⟨h1, h2, h3, h4⟩ := lead_inv 8 t
      split at h
      · cases h
      · rename_i d r' he
        split at h
        · rename_i hd
          subst hd
          split at h
          · rename_i hr
            simp only [Option.some.injEq, Prod.mk.injEq] at h
            obtain ⟨rfl, rfl⟩ := h
            refine ⟨?_, h1, h2, ?_⟩
            · rw [← he, ← h3]
            · rcases hr with hr | hr
              · exact .inl hr
              · exact .inr ((fld_iff _).2 hr)
          · cases h
        · cases h
    · cases h
end Go.Proofs.Ytccbgdbipihoaaa.Q.D
namespace Go.Proofs.Ytccbgdbipihoaaa.Q.D
open Go.RowKit
theorem at_get (s : ByteArray) (k : Nat) (h : k < s.size) : s.data.toList[k]? = some s[k] := by
  have h' : k < s.data.toList.length := by simpa using h
  rw [List.getElem?_eq_getElem h']; rfl
theorem size_len (s : ByteArray) : s.size = s.data.toList.length := Lib.size_eq s
theorem hidIt {p : Prop} (h : p) : Hid p := h
theorem ret_int {k : IntKind} {a b : Int} (h : a = b) : Ending.returned (.int k a) = .returned (.int k b) := by rw [h]

theorem okc_iff (k : Nat) (c : UInt8) : okc k c = true ↔ (97 ≤ c.toNat ∧ c.toNat ≤ 122 ∨ 65 ≤ c.toNat ∧ c.toNat ≤ 90 ∨ c.toNat = 95 ∨ c.toNat = 36) ∨ ((48 ≤ c.toNat ∧ c.toNat ≤ 57) ∧ 0 < k) := by
  simp [okc, isL, isD]
theorem okc_not (k : Nat) (c : UInt8) : okc k c = false ↔ ¬ ((97 ≤ c.toNat ∧ c.toNat ≤ 122 ∨ 65 ≤ c.toNat ∧ c.toNat ≤ 90 ∨ c.toNat = 95 ∨ c.toNat = 36) ∨ ((48 ≤ c.toNat ∧ c.toNat ≤ 57) ∧ 0 < k)) := by
  rw [← okc_iff]; simp

def Seen (s : ByteArray) (k : Nat) : Prop := k ≤ s.size ∧ k ≤ 64 ∧ ∀ j, j < k → ∃ c, s.data.toList[j]? = some c ∧ okc j c = true
theorem Seen.more {s : ByteArray} {k : Nat} (h : Seen s k) (h1 : k < s.size) (h2 : k < 64) (h3 : okc k s[k] = true) : Seen s (k + 1) := by
  refine ⟨by omega, by omega, fun j hj => ?_⟩
  by_cases e : j = k
  · subst e; exact ⟨_, at_get s j h1, h3⟩
  · exact h.2.2 j (by omega)
theorem Seen.stop {s : ByteArray} {k : Nat} (h : Seen s k) (h1 : k < s.size) (h3 : okc k s[k] = false) : nl s.data.toList = k :=
  nl_char h.2.1 h.2.2 (.inr fun c hc => by rw [at_get s k h1] at hc; cases hc; exact h3)
theorem Seen.full {s : ByteArray} {k : Nat} (h : Seen s k) (h1 : ¬ k < s.size ∨ ¬ k < 64) : nl s.data.toList = k := by
  have h2 := h.2.1
  refine nl_char h.2.1 h.2.2 ?_
  rcases h1 with h1 | h1
  · right; intro c hc
    rw [List.getElem?_eq_none (by rw [← size_len]; omega)] at hc; cases hc
  · left; omega

set_option maxHeartbeats 1000000 in
theorem nl_any (s : ByteArray) (w : World) :
    Calls Try.prog 45 #[.string s] w fun e w' => e = .returned (.int .i64 (nl s.data.toList)) ∧ w' = w := by
  go_enter Try.func45, Try.ntmps45
  go_wp2
  go_step3
  go_wp2
  go_step3
  go_wp2
  go_loop [3] (fun n => ∃ (k : Nat), n = .int .i64 (k : Int) ∧ k ≤ 64 ∧ Hid (Seen s k)) (fun i => 64 - (intOf i).toNat)
  case atStart =>
    refine ⟨0, rfl, by omega, ?_⟩
    exact ⟨by omega, by omega, fun j hj => by omega⟩
  case round =>
    obtain ⟨k, rfl, hk6, hsee⟩ := hrel
    by_cases h1 : k < s.size
    · have h1' : (k : Int) < (s.size : Int) := by omega
      by_cases h2 : k < 64
      · have h2' : (k : Int) < 64 := by omega
        go_wp2
        all_goals first
          | (refine ⟨⟨k + 1, by go_num, by omega, hsee.out.more h1 h2 ((okc_iff _ _).2 (by simp_all; omega))⟩, by simp [intOf]; omega⟩)
          | (go_ret; refine ⟨ret_int ?_, rfl⟩; rw [hsee.out.stop h1 ((okc_not _ _).2 (by simp_all; omega))])
      · have h2' : ¬ (k : Int) < 64 := by omega
        go_wp2
        go_ret
        refine ⟨?_, rfl⟩
        rw [hsee.out.full (.inr h2)]; rfl
    · have h1' : ¬ (k : Int) < (s.size : Int) := by omega
      go_wp2
      go_ret
      refine ⟨?_, rfl⟩
      rw [hsee.out.full (.inl h1)]; rfl
end Go.Proofs.Ytccbgdbipihoaaa.Q.D
namespace Go.Proofs.Ytccbgdbipihoaaa.Q.D
open Go.RowKit
theorem u8_of {c : UInt8} {n : Nat} (h : c.toNat = n) (hn : n < 256) : c = UInt8.ofNat n := by
  apply UInt8.toNat.inj; rw [h]; simp; omega
theorem drop_at (s : ByteArray) (n : Nat) (h : n < s.size) : s.data.toList.drop n = s[n] :: s.data.toList.drop (n + 1) := by
  have h' : n < s.data.toList.length := by rw [← size_len]; exact h
  rw [List.drop_eq_getElem_cons h']; rfl
theorem ext_data (s : ByteArray) (n : Nat) : (s.extract n s.size).data.toList = s.data.toList.drop n := by
  rw [Lib.extract_data, List.take_of_length_le]
  rw [List.length_drop, size_len]; omega
theorem base_I (s : ByteArray) (n : Nat) (h : n < s.size) (hc : s[n].toNat = 73) : base (s.data.toList.drop n) = 1 := by
  rw [drop_at s n h, u8_of hc (by omega)]; rfl
theorem base_L (s : ByteArray) (n : Nat) (h : n < s.size) (hc : s[n].toNat = 76) : base (s.data.toList.drop n) =
    if 0 < nl (s.extract (n + 1) s.size).data.toList ∧ (s.data.toList.drop (n + 1))[nl (s.extract (n + 1) s.size).data.toList]? = some 59 then nl (s.extract (n + 1) s.size).data.toList + 2 else 0 := by
  rw [drop_at s n h, u8_of hc (by omega), ext_data]; rfl
theorem base_no (s : ByteArray) (n : Nat) (h : n < s.size) (hc : s[n].toNat ≠ 73) (hd : s[n].toNat ≠ 76) : base (s.data.toList.drop n) = 0 := by
  rw [drop_at s n h]
  unfold base
  simp only
  rw [if_neg (by intro e; rw [e] at hc; exact hc rfl), if_neg (by intro e; rw [e] at hd; exact hd rfl)]
theorem base_end (s : ByteArray) (n : Nat) (h : s.size ≤ n) : base (s.data.toList.drop n) = 0 := by
  rw [List.drop_eq_nil_of_le (by rw [← size_len]; exact h)]; rfl
theorem flen_arr (s : ByteArray) (h : 0 < s.size) (hc : s[0].toNat = 91) : flen s.data.toList = if base (s.data.toList.drop 1) = 0 then 0 else base (s.data.toList.drop 1) + 1 := by
  have e := drop_at s 0 h
  rw [List.drop_zero] at e
  conv => lhs; rw [e, u8_of hc (by omega)]
  rfl
theorem flen_no (s : ByteArray) (h : 0 < s.size) (hc : s[0].toNat ≠ 91) : flen s.data.toList = base (s.data.toList.drop 0) := by
  have e := drop_at s 0 h
  rw [List.drop_zero] at e ⊢
  conv => lhs; rw [e]
  conv => rhs; rw [e]
  unfold flen
  simp only
  rw [if_neg (by intro e; rw [e] at hc; exact hc rfl)]
theorem semi_at (s : ByteArray) (m k : Nat) (h : m + k < s.size) : (s.data.toList.drop m)[k]? = some 59 ↔ s[m + k].toNat = 59 := by
  rw [List.getElem?_drop, at_get s (m + k) h]
  simp only [Option.some.injEq]
  constructor
  · intro e; rw [e]; rfl
  · intro e; rw [u8_of e (by omega)]; rfl
theorem semi_end (s : ByteArray) (m k : Nat) (h : s.size ≤ m + k) : (s.data.toList.drop m)[k]? = none := by
  rw [List.getElem?_drop, List.getElem?_eq_none]; rw [← size_len]; exact h
theorem toList_ne (s : ByteArray) (h : 0 < s.size) : (s.toList == []) = false := by
  rw [Lib.toList_data]
  have : s.data.toList ≠ [] := by intro e; rw [size_len, e] at h; simp at h
  simpa using this

set_option maxRecDepth 8000 in
set_option maxHeartbeats 2000000 in
theorem fl_nil (s : ByteArray) (w : World) (h : s.size = 0) :
    Calls Try.prog 40 #[.string s] w fun e w' => e = .returned (.int .i64 (flen s.data.toList)) ∧ w' = w := by
  have e1 : s.data.toList = [] := List.eq_nil_of_length_eq_zero (by rw [← size_len]; exact h)
  have e2 : s.toList = [] := by rw [Lib.toList_data]; exact e1
  rw [e1]
  clear e1
  go_enter Try.func40, Try.ntmps40
  go_wp2
  go_ret
  exact ⟨rfl, rfl⟩

set_option maxRecDepth 8000 in
set_option maxHeartbeats 4000000 in
theorem fl_zero (s : ByteArray) (w : World) (h0 : 0 < s.size) (hs : s.size ≤ 9223372036854775807) (hc : s[0].toNat ≠ 91) :
    Calls Try.prog 40 #[.string s] w fun e w' => e = .returned (.int .i64 (flen s.data.toList)) ∧ w' = w := by
  have e2 := toList_ne s (by omega)
  have z0 : ((0 : Int) == (s.size : Int)) = false := by simp; omega
  have b0 : ((s[0].toNat : Int) == 91) = false := by simp; omega
  rw [flen_no s h0 hc]
  by_cases c1 : s[0].toNat = 73
  · rw [base_I s 0 h0 c1]
    have b1 : ((s[0].toNat : Int) == 73) = true := by simp; omega
    go_enter Try.func40, Try.ntmps40
    go_wp2
    go_ret
    exact ⟨rfl, rfl⟩
  · have b1 : ((s[0].toNat : Int) == 73) = false := by simp; omega
    by_cases c2 : s[0].toNat = 76
    · rw [base_L s 0 h0 c2]
      have b2 : ((s[0].toNat : Int) == 76) = true := by simp; omega
      have hN := hidIt (nl_any (s.extract 1 s.size) w)
      have hk := nl_le64 (s.extract 1 s.size).data.toList
      rw [show (0 + 1 : Nat) = 1 from rfl]
      generalize nl (s.extract 1 s.size).data.toList = K at *
      have hsz : (1 : Int) ≤ (s.size : Int) := by omega
      by_cases d1 : 0 < K
      · by_cases d2 : 1 + K < s.size
        · by_cases d3 : s[1 + K].toNat = 59
          · simp only [if_pos (show 0 < K ∧ (s.data.toList.drop 1)[K]? = some 59 from ⟨d1, (semi_at s 1 K d2).2 d3⟩)]
            have b3 : ((s[1 + K].toNat : Int) == 59) = true := by simp; omega
            go_enter Try.func40, Try.ntmps40
            go_wp2_with fail
            refine hN.out.mono ?_
            rintro e w' ⟨rfl, hww⟩; cases hww
            go_wp2
            go_ret
            refine ⟨ret_int ?_, rfl⟩
            omega
          · simp only [if_neg (show ¬ (0 < K ∧ (s.data.toList.drop 1)[K]? = some 59) from fun h => d3 ((semi_at s 1 K d2).1 h.2))]
            have b3 : ((s[1 + K].toNat : Int) == 59) = false := by simp; omega
            go_enter Try.func40, Try.ntmps40
            go_wp2_with fail
            refine hN.out.mono ?_
            rintro e w' ⟨rfl, hww⟩; cases hww
            go_wp2
            go_ret
            exact ⟨rfl, rfl⟩
        · simp only [if_neg (show ¬ (0 < K ∧ (s.data.toList.drop 1)[K]? = some 59) from fun h => by have := h.2; rw [semi_end s 1 K (by omega)] at this; cases this)]
          go_enter Try.func40, Try.ntmps40
          go_wp2_with fail
          refine hN.out.mono ?_
          rintro e w' ⟨rfl, hww⟩; cases hww
          go_wp2
          go_ret
          exact ⟨rfl, rfl⟩
      · simp only [if_neg (show ¬ (0 < K ∧ (s.data.toList.drop 1)[K]? = some 59) from fun h => d1 h.1)]
        obtain rfl : K = 0 := by omega
        go_enter Try.func40, Try.ntmps40
        go_wp2_with fail
        refine hN.out.mono ?_
        rintro e w' ⟨rfl, hww⟩; cases hww
        go_wp2
        go_ret
        exact ⟨rfl, rfl⟩
    · rw [base_no s 0 h0 c1 c2]
      have b2 : ((s[0].toNat : Int) == 76) = false := by simp; omega
      go_enter Try.func40, Try.ntmps40
      go_wp2
      go_ret
      exact ⟨rfl, rfl⟩

set_option maxRecDepth 8000 in
set_option maxHeartbeats 4000000 in
theorem fl_one (s : ByteArray) (w : World) (h1 : 1 < s.size) (hs : s.size ≤ 9223372036854775807) (hc : s[0].toNat = 91) :
    Calls Try.prog 40 #[.string s] w fun e w' => e = .returned (.int .i64 (flen s.data.toList)) ∧ w' = w := by
  have e2 := toList_ne s (by omega)
  have z0 : ((1 : Int) == (s.size : Int)) = false := by simp; omega
  have b0 : ((s[0].toNat : Int) == 91) = true := by simp; omega
  have h0 : 0 < s.size := by omega
  rw [flen_arr s (by omega) hc]
  by_cases c1 : s[1].toNat = 73
  · rw [base_I s 1 h1 c1]
    have b1 : ((s[1].toNat : Int) == 73) = true := by simp; omega
    go_enter Try.func40, Try.ntmps40
    go_wp2
    go_ret
    exact ⟨rfl, rfl⟩
  · have b1 : ((s[1].toNat : Int) == 73) = false := by simp; omega
    by_cases c2 : s[1].toNat = 76
    · rw [base_L s 1 h1 c2]
      have b2 : ((s[1].toNat : Int) == 76) = true := by simp; omega
      have hN := hidIt (nl_any (s.extract 2 s.size) w)
      have hk := nl_le64 (s.extract 2 s.size).data.toList
      rw [show (1 + 1 : Nat) = 2 from rfl]
      generalize nl (s.extract 2 s.size).data.toList = K at *
      have hsz : (1 : Int) ≤ (s.size : Int) := by omega
      by_cases d1 : 0 < K
      · by_cases d2 : 2 + K < s.size
        · by_cases d3 : s[2 + K].toNat = 59
          · simp only [if_pos (show 0 < K ∧ (s.data.toList.drop 2)[K]? = some 59 from ⟨d1, (semi_at s 2 K d2).2 d3⟩)]
            try simp only [if_neg (show ¬ (K + 2 = 0) by omega)]
            have b3 : ((s[2 + K].toNat : Int) == 59) = true := by simp; omega
            go_enter Try.func40, Try.ntmps40
            go_wp2_with fail
            refine hN.out.mono ?_
            rintro e w' ⟨rfl, hww⟩; cases hww
            go_wp2
            go_ret
            refine ⟨ret_int ?_, rfl⟩
            omega
          · simp only [if_neg (show ¬ (0 < K ∧ (s.data.toList.drop 2)[K]? = some 59) from fun h => d3 ((semi_at s 2 K d2).1 h.2))]
            try simp only [if_pos]
            have b3 : ((s[2 + K].toNat : Int) == 59) = false := by simp; omega
            go_enter Try.func40, Try.ntmps40
            go_wp2_with fail
            refine hN.out.mono ?_
            rintro e w' ⟨rfl, hww⟩; cases hww
            go_wp2
            go_ret
            exact ⟨rfl, rfl⟩
        · simp only [if_neg (show ¬ (0 < K ∧ (s.data.toList.drop 2)[K]? = some 59) from fun h => by have := h.2; rw [semi_end s 2 K (by omega)] at this; cases this)]
          try simp only [if_pos]
          go_enter Try.func40, Try.ntmps40
          go_wp2_with fail
          refine hN.out.mono ?_
          rintro e w' ⟨rfl, hww⟩; cases hww
          go_wp2
          go_ret
          exact ⟨rfl, rfl⟩
      · simp only [if_neg (show ¬ (0 < K ∧ (s.data.toList.drop 2)[K]? = some 59) from fun h => d1 h.1)]
        try simp only [if_pos]
        obtain rfl : K = 0 := by omega
        go_enter Try.func40, Try.ntmps40
        go_wp2_with fail
        refine hN.out.mono ?_
        rintro e w' ⟨rfl, hww⟩; cases hww
        go_wp2
        go_ret
        exact ⟨rfl, rfl⟩
    · rw [base_no s 1 h1 c1 c2]
      have b2 : ((s[1].toNat : Int) == 76) = false := by simp; omega
      go_enter Try.func40, Try.ntmps40
      go_wp2
      go_ret
      exact ⟨rfl, rfl⟩

set_option maxRecDepth 8000 in
set_option maxHeartbeats 2000000 in
theorem fl_sign (s : ByteArray) (w : World) (h : s.size = 1) (hc : s[0].toNat = 91) :
    Calls Try.prog 40 #[.string s] w fun e w' => e = .returned (.int .i64 (flen s.data.toList)) ∧ w' = w := by
  have e2 := toList_ne s (by omega)
  have z0 : ((1 : Int) == (s.size : Int)) = true := by simp; omega
  have b0 : ((s[0].toNat : Int) == 91) = true := by simp; omega
  rw [flen_arr s (by omega) hc, base_end s 1 (by omega), if_pos rfl]
  go_enter Try.func40, Try.ntmps40
  go_wp2
  go_ret
  exact ⟨rfl, rfl⟩

theorem fl_any (s : ByteArray) (w : World) (hs : s.size ≤ 9223372036854775807) :
    Calls Try.prog 40 #[.string s] w fun e w' => e = .returned (.int .i64 (flen s.data.toList)) ∧ w' = w := by
  by_cases h : s.size = 0
  · exact fl_nil s w h
  · by_cases hc : (s[0]'(by omega)).toNat = 91
    · by_cases h1 : s.size = 1
      · exact fl_sign s w h1 hc
      · exact fl_one s w (by omega) hs hc
    · exact fl_zero s w (by omega) hs hc
end Go.Proofs.Ytccbgdbipihoaaa.Q.D
namespace Go.Proofs.Ytccbgdbipihoaaa.Q.D
open Go.RowKit
def str (l : Bs) : ByteArray := ⟨l.toArray⟩
theorem str_data (s : ByteArray) : str s.data.toList = s := by cases s; rfl
theorem data_str (l : Bs) : (str l).data.toList = l := rfl
theorem str_size (l : Bs) : (str l).size = l.length := by rw [size_len]; rfl
theorem ext_str (s : ByteArray) (a b : Nat) : s.extract a b = str ((s.data.toList.drop a).take (b - a)) := Lib.extract_eq s a b
theorem ext_end (s : ByteArray) (n : Nat) : s.extract n s.size = str (s.data.toList.drop n) := by rw [← str_data (s.extract n s.size), ext_data]

theorem cat_data (a b : ByteArray) : (a ++ b).data.toList = a.data.toList ++ b.data.toList := by simp [ByteArray.data_append]
theorem str_of {s : ByteArray} {l : Bs} (h : s.data.toList = l) : s = str l := by rw [← h, str_data]

def fieldB (l : Bs) : Bool := decide (0 < flen l ∧ flen l = l.length)



set_option maxRecDepth 8000 in
set_option maxHeartbeats 1000000 in
theorem field_any (s : ByteArray) (w : World) (hs : s.size ≤ 9223372036854775807) :
    Calls Try.prog 32 #[.string s] w fun e w' => e = .returned (.bool (fieldB s.data.toList)) ∧ w' = w := by
  have hN := hidIt (fl_any s w hs)
  unfold fieldB
  rw [← size_len]
  generalize flen s.data.toList = K at *
  by_cases h1 : 0 < K
  · by_cases h2 : K = s.size
    · rw [decide_eq_true ⟨h1, h2⟩]
      have b : ((K : Int) == (s.size : Int)) = true := by simp; omega
      go_enter Try.func32, Try.ntmps32
      go_wp2_with fail
      refine hN.out.mono ?_
      rintro e w' ⟨rfl, hww⟩; cases hww
      go_wp2
      go_ret
      exact ⟨rfl, rfl⟩
    · rw [decide_eq_false (fun h => h2 h.2)]
      have b : ((K : Int) == (s.size : Int)) = false := by simp; omega
      go_enter Try.func32, Try.ntmps32
      go_wp2_with fail
      refine hN.out.mono ?_
      rintro e w' ⟨rfl, hww⟩; cases hww
      go_wp2
      go_ret
      exact ⟨rfl, rfl⟩
  · rw [decide_eq_false (fun h => h1 h.1)]
    obtain rfl : K = 0 := by omega
    go_enter Try.func32, Try.ntmps32
    go_wp2_with fail
    refine hN.out.mono ?_
    rintro e w' ⟨rfl, hww⟩; cases hww
    go_wp2
    go_ret
    exact ⟨rfl, rfl⟩






end Go.Proofs.Ytccbgdbipihoaaa.Q.D
namespace Go.Proofs
open Go.Shelf
def Try.lays103_ren : Go.Shelf.Ren := ⟨fun | 103 => 31 | 210 => 41 | 206 => 39 | n => n, fun | 9 => 9 | 4 => 4 | 24 => 78 | 3 => 3 | n => n, fun | n => n⟩
theorem Try.lays103 : Go.Proofs.Lays.n103 Try.prog Try.lays103_ren := {
  mixed := by kernel_rfl
  f103 := Try.func31.trans (congrArg some (by kernel_rfl))
  f206 := Try.func39.trans (congrArg some (by kernel_rfl))
  f210 := Try.func41.trans (congrArg some (by kernel_rfl))
  t3 := Try.underlying3
  a3 := Try.isAgg3
  z3 := Try.sizeOf3
  v3 := Try.zeroValue3
  t4 := Try.underlying4
  a4 := Try.isAgg4
  z4 := Try.sizeOf4
  v4 := Try.zeroValue4
  t9 := Try.underlying9
  a9 := Try.isAgg9
  z9 := Try.sizeOf9
  v9 := Try.zeroValue9
  t24 := Try.underlying78
  a24 := Try.isAgg78
  z24 := Try.sizeOf78
  v24 := Try.zeroValue78 }
open Go.RowKit in
theorem Try.strings_CutPrefix (s p : ByteArray) (w : World) :
    Calls Try.prog 31 #[.string s, .string p] w fun e w' => e = .returned (.tuple #[.string ⟨(Lib.trimPrefix s.data.toList p.data.toList).toArray⟩, .bool (Lib.hasPrefix s.data.toList p.data.toList)]) ∧ w' = w := Any.strings_CutPrefix Try.lays103 s p w
def Try.lays99_ren : Go.Shelf.Ren := ⟨fun | 99 => 29 | 206 => 39 | n => n, fun | 9 => 9 | 4 => 4 | 3 => 3 | n => n, fun | n => n⟩
theorem Try.lays99 : Go.Proofs.Lays.n99 Try.prog Try.lays99_ren := {
  mixed := by kernel_rfl
  f99 := Try.func29.trans (congrArg some (by kernel_rfl))
  f206 := Try.func39.trans (congrArg some (by kernel_rfl))
  t3 := Try.underlying3
  a3 := Try.isAgg3
  z3 := Try.sizeOf3
  v3 := Try.zeroValue3
  t4 := Try.underlying4
  a4 := Try.isAgg4
  z4 := Try.sizeOf4
  v4 := Try.zeroValue4
  t9 := Try.underlying9
  a9 := Try.isAgg9
  z9 := Try.sizeOf9
  v9 := Try.zeroValue9 }
open Go.RowKit Go.Lib in
theorem Try.strings_HasPrefix (s p : ByteArray) (w : World) :
    Calls Try.prog 29 #[.string s, .string p] w fun e w' => e = .returned (.bool (Lib.hasPrefix s.data.toList p.data.toList)) ∧ w' = w := Any.strings_HasPrefix Try.lays99 s p w
end Go.Proofs
