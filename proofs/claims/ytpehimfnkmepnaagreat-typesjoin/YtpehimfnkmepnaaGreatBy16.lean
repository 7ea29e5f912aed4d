import Derived.Test.YtpehimfnkmepnaaGreatProg
import Derived.WalkKit
import Derived.WalkSpells
import Derived.WalkLawsBesides
import Derived.Maps.AppendAt
import Derived.WalkMore
import Derived.Lib.Strings
import Derived.Lib.OthersKept
import Derived.Deep.LoopGhost
set_option maxRecDepth 8000
set_option maxHeartbeats 40000000
namespace Go.Proofs.YtpehimfnkmepnaaGreat.P3.D
open Go.RowKit
abbrev Bs := List UInt8
def isL (c : UInt8) : Bool := decide (97 ≤ c.toNat ∧ c.toNat ≤ 122 ∨ 65 ≤ c.toNat ∧ c.toNat ≤ 90 ∨ c.toNat = 95 ∨ c.toNat = 36)
def isD (c : UInt8) : Bool := decide (48 ≤ c.toNat ∧ c.toNat ≤ 57)
def okc (k : Nat) (c : UInt8) : Bool := isL c || (isD c && decide (0 < k))
def zC8 (l : Bs) : Prop := 1 ≤ l.length ∧ l.length ≤ 64 ∧ ∀ j c, l[j]? = some c → okc j c = true
def nlA : Nat → Nat → Bs → Nat
 | 0, _, _ => 0
 | _ + 1, _, [] => 0
 | m + 1, k, c :: t => if okc k c then nlA m (k + 1) t + 1 else 0
def nl (l : Bs) : Nat := nlA 64 0 l
theorem zL6 : ∀ (m k : Nat) (l : Bs) (n : Nat), n ≤ m → (∀ j, j < n → ∃ c, l[j]? = some c ∧ okc (k + j) c = true) →
 (n = m ∨ ∀ c, l[n]? = some c → okc (k + n) c = false) → nlA m k l = n := by
 intro m
 induction m with
 | zero => intro k l n h _ _; simp [nlA]; omega
 | succ m ih =>
   intro k l n hn hok hst
   cases l with
   | nil =>
     simp only [nlA]
     cases n with
     | zero => rfl
     | succ n => obtain ⟨c, h, _⟩ := hok 0 (by omega); simp at h
   | cons c t =>
     simp only [nlA]
     cases n with
     | zero =>
       rcases hst with h | h
       · omega
       · have := h c rfl
         simp only [Nat.add_zero] at this
         rw [this]; rfl
     | succ n =>
       obtain ⟨c', h1, h2⟩ := hok 0 (by omega)
       simp at h1; subst h1
       simp only [Nat.add_zero] at h2
       rw [h2, if_pos rfl, ih (k + 1) t n (by omega) ?_ ?_]
       · intro j hj
         obtain ⟨c', h1, h2⟩ := hok (j + 1) (by omega)
         exact ⟨c', by simpa using h1, by rw [show k + 1 + j = k + (j + 1) by omega]; exact h2⟩
       · rcases hst with h | h
         · left; omega
         · right; intro c' h1
           rw [show k + 1 + n = k + (n + 1) by omega]
           exact h c' (by simpa using h1)
theorem zF6 {l : Bs} {n : Nat} (hn : n ≤ 64) (hok : ∀ j, j < n → ∃ c, l[j]? = some c ∧ okc j c = true)
 (hst : n = 64 ∨ ∀ c, l[n]? = some c → okc n c = false) : nl l = n :=
 zL6 64 0 l n hn (fun j hj => by rw [Nat.zero_add]; exact hok j hj) (by rw [Nat.zero_add]; exact hst)
theorem zIy : ∀ (m k : Nat) (l : Bs), nlA m k l ≤ m ∧ nlA m k l ≤ l.length ∧ ∀ j, j < nlA m k l → ∃ c, l[j]? = some c ∧ okc (k + j) c = true := by
 intro m
 induction m with
 | zero => intro k l; simp [nlA]
 | succ m ih =>
   intro k l
   cases l with
   | nil => simp [nlA]
   | cons c t =>
     simp only [nlA]
     by_cases h : okc k c = true
     · rw [if_pos h]
       obtain ⟨h1, h2, h3⟩ := ih (k + 1) t
       refine ⟨by omega, by simp; omega, ?_⟩
       intro j hj
       cases j with
       | zero => exact ⟨c, rfl, by simpa using h⟩
       | succ j =>
         obtain ⟨c', h4, h5⟩ := h3 j (by omega)
         exact ⟨c', by simpa using h4, by rw [show k + (j + 1) = k + 1 + j by omega]; exact h5⟩
     · rw [if_neg h]; simp
theorem zJv (l : Bs) : nl l ≤ 64 := (zIy 64 0 l).1
theorem zWe (l : Bs) : nl l ≤ l.length := (zIy 64 0 l).2.1
theorem zTj {l : Bs} {j : Nat} (h : j < nl l) : ∃ c, l[j]? = some c ∧ okc j c = true := by
 have := (zIy 64 0 l).2.2 j h
 rwa [Nat.zero_add] at this
theorem zEl {l : Bs} (h : 0 < nl l) : zC8 (l.take (nl l)) := by
 have h1 := zJv l
 have h2 := zWe l
 refine ⟨by simp; omega, by simp; omega, ?_⟩
 intro j c hj
 rw [List.getElem?_take] at hj
 split at hj
 · obtain ⟨c', h3, h4⟩ := zTj (l := l) (by assumption)
   rw [h3] at hj; cases hj; exact h4
 · cases hj
theorem zIr (k : Nat) : okc k 59 = false := by unfold okc; simp [isL, isD]
theorem zL0 {nm rest : Bs} (h : zC8 nm) : nl (nm ++ 59 :: rest) = nm.length := by
 obtain ⟨h1, h2, h3⟩ := h
 refine zF6 h2 ?_ ?_
 · intro j hj
   have : (nm ++ 59 :: rest)[j]? = nm[j]? := List.getElem?_append_left hj
   rw [this, List.getElem?_eq_getElem hj]
   exact ⟨_, rfl, h3 j _ (List.getElem?_eq_getElem hj)⟩
 · right
   intro c hc
   rw [List.getElem?_append_right (Nat.le_refl _)] at hc
   simp at hc; subst hc; exact zIr _
theorem zL3 {nm : Bs} (h : zC8 nm) : nl nm = nm.length := by
 obtain ⟨h1, h2, h3⟩ := h
 refine zF6 h2 ?_ ?_
 · intro j hj
   rw [List.getElem?_eq_getElem hj]
   exact ⟨_, rfl, h3 j _ (List.getElem?_eq_getElem hj)⟩
 · right
   intro c hc
   rw [List.getElem?_eq_none (Nat.le_refl _)] at hc
   cases hc
theorem zHp (l : Bs) : zC8 l ↔ 0 < nl l ∧ nl l = l.length := by
 constructor
 · intro h
   have := zL3 h
   have := h.1
   exact ⟨by omega, by omega⟩
 · rintro ⟨h1, h2⟩
   have := zEl h1
   rwa [h2, List.take_length] at this
def base (l : Bs) : Nat :=
 match l with
 | [] => 0
 | c :: t => if c = 73 then 1 else if c = 76 then (if 0 < nl t ∧ t[nl t]? = some 59 then nl t + 2 else 0) else 0
def flen (l : Bs) : Nat :=
 match l with
 | [] => 0
 | c :: t => if c = 91 then (if base t = 0 then 0 else base t + 1) else base (c :: t)
def zGh (f : Bs) : Prop := f = [73] ∨ ∃ nm, zC8 nm ∧ f = 76 :: (nm ++ [59])
def Fld (f : Bs) : Prop := zGh f ∨ ∃ g, zGh g ∧ f = 91 :: g
theorem zJd {f : Bs} (h : zGh f) (rest : Bs) : base (f ++ rest) = f.length := by
 rcases h with rfl | ⟨nm, hn, rfl⟩
 · simp [base]
 · have e : nl (nm ++ 59 :: rest) = nm.length := zL0 hn
   have h1 := hn.1
   have e2 : (nm ++ 59 :: rest)[nm.length]? = some 59 := by rw [List.getElem?_append_right (Nat.le_refl _)]; simp
   simp only [List.cons_append, List.append_assoc, List.nil_append, base]
   rw [e, if_neg (by decide), if_pos trivial, if_pos ⟨by omega, e2⟩]
   simp
theorem zFn {l : Bs} (h : base l ≠ 0) : ∃ f rest, zGh f ∧ l = f ++ rest ∧ base l = f.length := by
 cases l with
 | nil => exact absurd rfl h
 | cons c t =>
   unfold base at h ⊢
   simp only at h ⊢
   by_cases c1 : c = 73
   · subst c1
     exact ⟨[73], t, .inl rfl, rfl, by simp⟩
   · rw [if_neg c1] at h ⊢
     by_cases c2 : c = 76
     · subst c2
       rw [if_pos rfl] at h ⊢
       by_cases c3 : 0 < nl t ∧ t[nl t]? = some 59
       · rw [if_pos c3]
         obtain ⟨c3, c4⟩ := c3
         have hlt : nl t < t.length := by
          rcases Nat.lt_or_ge (nl t) t.length with h | h
          · exact h
          · rw [List.getElem?_eq_none h] at c4; cases c4
         have e : t = t.take (nl t) ++ 59 :: t.drop (nl t + 1) := by
          conv => lhs; rw [← List.take_append_drop (nl t) t]
          rw [List.drop_eq_getElem_cons hlt]
          rw [List.getElem?_eq_getElem hlt] at c4
          simp only [Option.some.injEq] at c4
          rw [c4]
         refine ⟨76 :: (t.take (nl t) ++ [59]), t.drop (nl t + 1), .inr ⟨_, zEl c3, rfl⟩, ?_, ?_⟩
         · conv => lhs; rw [e]
           simp
         · simp; omega
       · rw [if_neg c3] at h; exact absurd rfl h
     · rw [if_neg c2] at h; exact absurd rfl h
theorem zEw {g : Bs} (h : zGh g) : ∃ c t, g = c :: t ∧ (c = 73 ∨ c = 76) := by
 rcases h with rfl | ⟨nm, _, rfl⟩
 · exact ⟨_, _, rfl, .inl rfl⟩
 · exact ⟨_, _, rfl, .inr rfl⟩
theorem zFp {g : Bs} (h : zGh g) : 0 < g.length := by obtain ⟨c, t, rfl, _⟩ := zEw h; simp
theorem zJw {f : Bs} (h : Fld f) (rest : Bs) : flen (f ++ rest) = f.length := by
 rcases h with h | ⟨g, h, rfl⟩
 · have e := zJd h rest
   obtain ⟨c, t, rfl, hc⟩ := zEw h
   rw [List.cons_append] at e ⊢
   unfold flen
   simp only
   rw [if_neg (by rcases hc with rfl | rfl <;> decide), e]
 · have e := zJd h rest
   have hp := zFp h
   rw [List.cons_append]
   unfold flen
   simp only
   rw [if_pos trivial, e, if_neg (by omega)]
   simp
theorem zE0 {l : Bs} (h : flen l ≠ 0) : ∃ f rest, Fld f ∧ l = f ++ rest ∧ flen l = f.length := by
 cases l with
 | nil => exact absurd rfl h
 | cons c t =>
   unfold flen at h ⊢
   simp only at h ⊢
   by_cases c1 : c = 91
   · subst c1
     rw [if_pos rfl] at h ⊢
     by_cases c2 : base t = 0
     · rw [if_pos c2] at h; exact absurd rfl h
     · rw [if_neg c2]
       obtain ⟨f, r, h1, h2, h3⟩ := zFn c2
       exact ⟨91 :: f, r, .inr ⟨f, h1, rfl⟩, by rw [h2]; rfl, by rw [h3]; simp⟩
   · rw [if_neg c1] at h ⊢
     obtain ⟨f, r, h1, h2, h3⟩ := zFn h
     exact ⟨f, r, .inl h1, h2, h3⟩
theorem zGk {f : Bs} (h : Fld f) : 0 < f.length := by
 rcases h with h | ⟨g, h, rfl⟩
 · exact zFp h
 · simp
theorem zFv {f : Bs} (h : zGh f) : f.length ≤ 66 := by
 rcases h with rfl | ⟨nm, h, rfl⟩
 · simp
 · have := h.2.1; simp; omega
theorem zJk {f : Bs} (h : Fld f) : f.length ≤ 67 := by
 rcases h with h | ⟨g, h, rfl⟩
 · have := zFv h; omega
 · have := zFv h; simp; omega
theorem zLr (l : Bs) : flen l ≤ l.length ∧ flen l ≤ 67 := by
 by_cases h : flen l = 0
 · omega
 · obtain ⟨f, r, h1, h2, h3⟩ := zE0 h
   have := zJk h1
   refine ⟨?_, by omega⟩
   rw [h3, h2]; simp
theorem zGm (l : Bs) : Fld l ↔ 0 < flen l ∧ flen l = l.length := by
 constructor
 · intro h
   have := zJw h []
   rw [List.append_nil] at this
   have := zGk h
   omega
 · rintro ⟨h1, h2⟩
   obtain ⟨f, r, h3, h4, h5⟩ := zE0 (l := l) (by omega)
   have : r = [] := by
    have := congrArg List.length h4
    rw [List.length_append] at this
    exact List.eq_nil_of_length_eq_zero (by omega)
   rw [h4, this, List.append_nil]; exact h3
theorem zFo {l : Bs} (h : flen l ≠ 0) : Fld (l.take (flen l)) := by
 obtain ⟨f, r, h3, h4, h5⟩ := zE0 h
 rw [h5, h4, List.take_left]; exact h3
def lead : Nat → Bs → List Bs × Bs
 | 0, l => ([], l)
 | m + 1, l => if flen l = 0 then ([], l) else (l.take (flen l) :: (lead m (l.drop (flen l))).1, (lead m (l.drop (flen l))).2)
theorem zE1 : ∀ (m : Nat) (ps : List Bs) (rest : Bs), (∀ p ∈ ps, Fld p) → ps.length ≤ m → (ps.length = m ∨ flen rest = 0) → lead m (ps.flatten ++ rest) = (ps, rest) := by
 intro m
 induction m with
 | zero => intro ps rest _ h _; obtain rfl : ps = [] := List.eq_nil_of_length_eq_zero (by omega); rfl
 | succ m ih =>
   intro ps rest hp hl hr
   cases ps with
   | nil =>
     rcases hr with h | h
     · simp at h
     · simp [lead, h]
   | cons p ps =>
     have hf := hp p (by simp)
     have e : flen ((p :: ps).flatten ++ rest) = p.length := by rw [List.flatten_cons, List.append_assoc]; exact zJw hf _
     have hpos := zGk hf
     have ih' := ih ps rest (fun q hq => hp q (by simp [hq])) (by simpa using hl) (by simpa using hr)
     unfold lead
     rw [e, if_neg (by omega), List.flatten_cons, List.append_assoc, List.take_left, List.drop_left, ih']
theorem zGv : ∀ (m : Nat) (l : Bs), (∀ p ∈ (lead m l).1, Fld p) ∧ (lead m l).1.length ≤ m ∧ l = (lead m l).1.flatten ++ (lead m l).2 ∧ ((lead m l).1.length = m ∨ flen (lead m l).2 = 0) := by
 intro m
 induction m with
 | zero => intro l; simp [lead]
 | succ m ih =>
   intro l
   unfold lead
   by_cases h : flen l = 0
   · rw [if_pos h]; simp [h]
   · rw [if_neg h]
     obtain ⟨h1, h2, h3, h4⟩ := ih (l.drop (flen l))
     refine ⟨?_, by simpa using h2, ?_, by simpa using h4⟩
     · intro p hp
       rcases List.mem_cons.1 hp with rfl | hp
       · exact zFo h
       · exact h1 p hp
     · show l = (_ :: _).flatten ++ _
       rw [List.flatten_cons, List.append_assoc, ← h3, List.take_append_drop]
def meth (l : Bs) : Option (List Bs × Bs) :=
 match l with
 | [] => none
 | c :: t => if c = 40 then
     (match (lead 8 t).2 with
      | [] => none
      | d :: r => if d = 41 then (if r = [86] ∨ (0 < flen r ∧ flen r = r.length) then some ((lead 8 t).1, r) else none) else none)
  else none
def Meth (l : Bs) (ps : List Bs) (r : Bs) : Prop := l = 40 :: (ps.flatten ++ 41 :: r) ∧ (∀ p ∈ ps, Fld p) ∧ ps.length ≤ 8 ∧ (r = [86] ∨ Fld r)
theorem zDx (r : Bs) : flen (41 :: r) = 0 := by simp [flen, base]
theorem zJf {l : Bs} {ps : List Bs} {r : Bs} (h : Meth l ps r) : meth l = some (ps, r) := by
 obtain ⟨rfl, h1, h2, h3⟩ := h
 have e := zE1 8 ps (41 :: r) h1 h2 (.inr (zDx r))
 unfold meth
 simp only
 rw [if_pos trivial, e]
 simp only
 rw [if_pos trivial, if_pos]
 rcases h3 with h3 | h3
 · exact .inl h3
 · exact .inr ((zGm r).1 h3)
theorem zGw {l : Bs} {ps : List Bs} {r : Bs} (h : meth l = some (ps, r)) : Meth l ps r := by
 unfold meth at h
 split at h
 · cases h
 · rename_i c t
   split at h
   · rename_i hc
     subst hc
     obtain ⟨h1, h2, h3, h4⟩ := zGv 8 t
     split at h
     · cases h
     · rename_i d r' he
       split at h
       · rename_i hd
         subst hd
         split at h
         · rename_i hr
           simp only [Option.some.injEq, Prod.mk.injEq] at h
           obtain ⟨rfl, rfl⟩ := h
           refine ⟨?_, h1, h2, ?_⟩
           · rw [← he, ← h3]
           · rcases hr with hr | hr
             · exact .inl hr
             · exact .inr ((zGm _).2 hr)
         · cases h
       · cases h
   · cases h
theorem zDg (s : ByteArray) (k : Nat) (h : k < s.size) : s.data.toList[k]? = some s[k] := by
 have h' : k < s.data.toList.length := by simpa using h
 rw [List.getElem?_eq_getElem h']; rfl
theorem zA7 (s : ByteArray) : s.size = s.data.toList.length := Lib.size_eq s
theorem zA0 {p : Prop} (h : p) : Hid p := h
theorem zC4 {k : IntKind} {a b : Int} (h : a = b) : Ending.returned (.int k a) = .returned (.int k b) := by rw [h]
theorem zJg (k : Nat) (c : UInt8) : okc k c = true ↔ (97 ≤ c.toNat ∧ c.toNat ≤ 122 ∨ 65 ≤ c.toNat ∧ c.toNat ≤ 90 ∨ c.toNat = 95 ∨ c.toNat = 36) ∨ ((48 ≤ c.toNat ∧ c.toNat ≤ 57) ∧ 0 < k) := by
 simp [okc, isL, isD]
theorem zNc (k : Nat) (c : UInt8) : okc k c = false ↔ ¬ ((97 ≤ c.toNat ∧ c.toNat ≤ 122 ∨ 65 ≤ c.toNat ∧ c.toNat ≤ 90 ∨ c.toNat = 95 ∨ c.toNat = 36) ∨ ((48 ≤ c.toNat ∧ c.toNat ≤ 57) ∧ 0 < k)) := by
 rw [← zJg]; simp
def Seen (s : ByteArray) (k : Nat) : Prop := k ≤ s.size ∧ k ≤ 64 ∧ ∀ j, j < k → ∃ c, s.data.toList[j]? = some c ∧ okc j c = true
theorem Seen.more {s : ByteArray} {k : Nat} (h : Seen s k) (h1 : k < s.size) (h2 : k < 64) (h3 : okc k s[k] = true) : Seen s (k + 1) := by
 refine ⟨by omega, by omega, fun j hj => ?_⟩
 by_cases e : j = k
 · subst e; exact ⟨_, zDg s j h1, h3⟩
 · exact h.2.2 j (by omega)
theorem Seen.stop {s : ByteArray} {k : Nat} (h : Seen s k) (h1 : k < s.size) (h3 : okc k s[k] = false) : nl s.data.toList = k :=
 zF6 h.2.1 h.2.2 (.inr fun c hc => by rw [zDg s k h1] at hc; cases hc; exact h3)
theorem Seen.full {s : ByteArray} {k : Nat} (h : Seen s k) (h1 : ¬ k < s.size ∨ ¬ k < 64) : nl s.data.toList = k := by
 have h2 := h.2.1
 refine zF6 h.2.1 h.2.2 ?_
 rcases h1 with h1 | h1
 · right; intro c hc
   rw [List.getElem?_eq_none (by rw [← zA7]; omega)] at hc; cases hc
 · left; omega
theorem zFu {c : UInt8} {n : Nat} (h : c.toNat = n) (hn : n < 256) : c = UInt8.ofNat n := by
 apply UInt8.toNat.inj; rw [h]; simp; omega
theorem zCe (s : ByteArray) (n : Nat) (h : n < s.size) : s.data.toList.drop n = s[n] :: s.data.toList.drop (n + 1) := by
 have h' : n < s.data.toList.length := by rw [← zA7]; exact h
 rw [List.drop_eq_getElem_cons h']; rfl
theorem zBy (s : ByteArray) (n : Nat) : (s.extract n s.size).data.toList = s.data.toList.drop n := by
 rw [Lib.extract_data, List.take_of_length_le]
 rw [List.length_drop, zA7]; omega
theorem zP3 (s : ByteArray) (n : Nat) (h : n < s.size) (hc : s[n].toNat = 73) : base (s.data.toList.drop n) = 1 := by
 rw [zCe s n h, zFu hc (by omega)]; rfl
theorem zMx (s : ByteArray) (n : Nat) (h : n < s.size) (hc : s[n].toNat = 76) : base (s.data.toList.drop n) =
 if 0 < nl (s.extract (n + 1) s.size).data.toList ∧ (s.data.toList.drop (n + 1))[nl (s.extract (n + 1) s.size).data.toList]? = some 59 then nl (s.extract (n + 1) s.size).data.toList + 2 else 0 := by
 rw [zCe s n h, zFu hc (by omega), zBy]; rfl
theorem zLc (s : ByteArray) (n : Nat) (h : n < s.size) (hc : s[n].toNat ≠ 73) (hd : s[n].toNat ≠ 76) : base (s.data.toList.drop n) = 0 := by
 rw [zCe s n h]
 unfold base
 simp only
 rw [if_neg (by intro e; rw [e] at hc; exact hc rfl), if_neg (by intro e; rw [e] at hd; exact hd rfl)]
theorem zLg (s : ByteArray) (n : Nat) (h : s.size ≤ n) : base (s.data.toList.drop n) = 0 := by
 rw [List.drop_eq_nil_of_le (by rw [← zA7]; exact h)]; rfl
theorem zHc (s : ByteArray) (h : 0 < s.size) (hc : s[0].toNat = 91) : flen s.data.toList = if base (s.data.toList.drop 1) = 0 then 0 else base (s.data.toList.drop 1) + 1 := by
 have e := zCe s 0 h
 rw [List.drop_zero] at e
 conv => lhs; rw [e, zFu hc (by omega)]
 rfl
theorem zNa (s : ByteArray) (h : 0 < s.size) (hc : s[0].toNat ≠ 91) : flen s.data.toList = base (s.data.toList.drop 0) := by
 have e := zCe s 0 h
 rw [List.drop_zero] at e ⊢
 conv => lhs; rw [e]
 conv => rhs; rw [e]
 unfold flen
 simp only
 rw [if_neg (by intro e; rw [e] at hc; exact hc rfl)]
theorem zFm (s : ByteArray) (m k : Nat) (h : m + k < s.size) : (s.data.toList.drop m)[k]? = some 59 ↔ s[m + k].toNat = 59 := by
 rw [List.getElem?_drop, zDg s (m + k) h]
 simp only [Option.some.injEq]
 constructor
 · intro e; rw [e]; rfl
 · intro e; rw [zFu e (by omega)]; rfl
theorem zLf (s : ByteArray) (m k : Nat) (h : s.size ≤ m + k) : (s.data.toList.drop m)[k]? = none := by
 rw [List.getElem?_drop, List.getElem?_eq_none]; rw [← zA7]; exact h
theorem zCg (s : ByteArray) (h : 0 < s.size) : (s.toList == []) = false := by
 rw [Lib.toList_data]
 have : s.data.toList ≠ [] := by intro e; rw [zA7, e] at h; simp at h
 simpa using this
def str (l : Bs) : ByteArray := ⟨l.toArray⟩
theorem zB1 (s : ByteArray) : str s.data.toList = s := by cases s; rfl
theorem zDr (l : Bs) : (str l).data.toList = l := rfl
theorem zDq (l : Bs) : (str l).size = l.length := by rw [zA7]; rfl
theorem zLb (s : ByteArray) (a b : Nat) : s.extract a b = str ((s.data.toList.drop a).take (b - a)) := Lib.extract_eq s a b
theorem zIu (s : ByteArray) (n : Nat) : s.extract n s.size = str (s.data.toList.drop n) := by rw [← zB1 (s.extract n s.size), zBy]
theorem zHj (a b : ByteArray) : (a ++ b).data.toList = a.data.toList ++ b.data.toList := by simp [ByteArray.data_append]
theorem zSd {s : ByteArray} {l : Bs} (h : s.data.toList = l) : s = str l := by rw [← h, zB1]
def zAw (l : Bs) : Bool := decide (0 < nl l ∧ nl l = l.length)
def zAp (l : Bs) : Bool := decide (0 < flen l ∧ flen l = l.length)
theorem zC9 (l : Bs) : zAw l = true ↔ zC8 l := by rw [zHp]; simp [zAw]
theorem zBp (l : Bs) : zAp l = true ↔ Fld l := by rw [zGm]; simp [zAp]
def zFq (l : Bs) : Bs := if zAp l = true then (if l[0]? = some 76 then (l.drop 1).take (l.length - 2) else if l[0]? = some 91 then [79, 98, 106, 101, 99, 116] else []) else []
def zEm (l : Bs) : Bs × Bool := if zAp l = true ∧ l[0]? = some 91 then (l.drop 1, true) else ([], false)
theorem zOq {a b : Bool} (h : a = b) : Ending.returned (.bool a) = .returned (.bool b) := by rw [h]
theorem zHd {s : ByteArray} (h : zAp s.data.toList = true) : 0 < s.size := by
 have := zGk ((zBp _).1 h)
 rw [zA7]; exact this
theorem at0 (s : ByteArray) (h : 0 < s.size) (n : Nat) (hn : n < 256) : s.data.toList[0]? = some (UInt8.ofNat n) ↔ s[0].toNat = n := by
 rw [zDg s 0 h]
 simp only [Option.some.injEq]
 constructor
 · intro e; rw [e]; simp; omega
 · intro e; exact zFu e hn
def zPm (s : ByteArray) (k : Nat) : Prop := k ≤ s.size ∧ ∀ j, j < k → ∃ c, s.data.toList[j]? = some c ∧ okc j c = true
theorem zPm.more {s : ByteArray} {k : Nat} (h : zPm s k) (h1 : k < s.size) (h3 : okc k s[k] = true) : zPm s (k + 1) := by
 refine ⟨by omega, fun j hj => ?_⟩
 by_cases e : j = k
 · subst e; exact ⟨_, zDg s j h1, h3⟩
 · exact h.2 j (by omega)
theorem zW5 {s : ByteArray} {k : Nat} (h1 : k < s.size) (h3 : okc k s[k] = false) : zAw s.data.toList = false := by
 cases h : zAw s.data.toList with
 | false => rfl
 | true =>
   have := ((zC9 _).1 h).2.2 k _ (zDg s k h1)
   rw [h3] at this; cases this
theorem zPm.name {s : ByteArray} (h : zPm s s.size) (h1 : 1 ≤ s.size) (h2 : s.size ≤ 64) : zAw s.data.toList = true := by
 rw [zC9]
 refine ⟨by rw [← zA7]; exact h1, by rw [← zA7]; exact h2, fun j c hj => ?_⟩
 obtain ⟨c', e1, e2⟩ := h.2 j (by rw [zA7]; exact (List.getElem?_eq_some_iff.1 hj).1)
 rw [e1] at hj; cases hj; exact e2
theorem zV7 {s : ByteArray} (h : ¬ (1 ≤ s.size ∧ s.size ≤ 64)) : zAw s.data.toList = false := by
 cases h' : zAw s.data.toList with
 | false => rfl
 | true =>
   have := (zC9 _).1 h'
   rw [zA7] at h
   exact absurd ⟨this.1, this.2.1⟩ h
theorem zDe (s : ByteArray) (w : World) (hs : s.size ≤ 9223372036854775807) :
 Calls Tryz.prog 121 #[.string s] w fun e w' => e = .returned (.bool (zAw s.data.toList)) ∧ w' = w := by
 go_enter Tryz.func121, Tryz.ntmps121
 go_wp2
 go_loop [3] (fun n => ∃ (k : Nat), n = .int .i64 (k : Int) ∧ k ≤ s.size ∧ Hid (zPm s k)) (fun i => s.size - (intOf i).toNat)
 case atStart =>
  exact ⟨0, rfl, by omega, ⟨by omega, fun j hj => by omega⟩⟩
 case round =>
  obtain ⟨k, rfl, hk, hsee⟩ := hrel
  by_cases h1 : k < s.size
  · have h1' : (k : Int) < (s.size : Int) := by omega
    go_wp2
    all_goals first
     | (refine ⟨⟨k + 1, by go_num, by omega, hsee.out.more h1 ((zJg _ _).2 (by simp_all; omega))⟩, by simp [intOf]; omega⟩)
     | (go_ret; refine ⟨zOq ?_, rfl⟩; rw [zW5 h1 ((zNc _ _).2 (by simp_all; omega))])
     | (exfalso; simp_all; done)
     | (exfalso; simp_all; omega)
  · have h1' : ¬ (k : Int) < (s.size : Int) := by omega
    obtain rfl : k = s.size := by omega
    by_cases c1 : 1 ≤ s.size
    · have c1' : (1 : Int) ≤ (s.size : Int) := by omega
      by_cases c2 : s.size ≤ 64
      · have c2' : (s.size : Int) ≤ 64 := by omega
        have F := zA0 (hsee.out.name c1 c2)
        go_wp2
        go_ret
        exact ⟨by rw [F.out]; rfl, rfl⟩
      · have c2' : ¬ (s.size : Int) ≤ 64 := by omega
        have F := zA0 (zV7 (s := s) (by omega))
        go_wp2
        go_ret
        exact ⟨by rw [F.out]; rfl, rfl⟩
    · have c1' : ¬ (1 : Int) ≤ (s.size : Int) := by omega
      have F := zA0 (zV7 (s := s) (by omega))
      go_wp2
      go_ret
      exact ⟨by rw [F.out]; rfl, rfl⟩
def zKh (s : ByteArray) (k : Nat) : Prop := ∀ j, 1 ≤ j → j < k → ∀ h : j < s.size, s[j].toNat ≠ 59
theorem zKh.more {s : ByteArray} {k : Nat} (h : zKh s k) (hk : k < s.size) (h1 : s[k].toNat ≠ 59) : zKh s (k + 1) := by
 intro j h2 h3 h4
 by_cases e : j = k
 · subst e; exact h1
 · exact h j h2 (by omega) h4
theorem zQi (s : ByteArray) (k : Nat) (h0 : 0 < s.size) (hc : s[0].toNat = 76) (hn : zKh s k) (hk1 : 1 ≤ k) (hk : k < s.size) (h59 : s[k].toNat = 59) :
 base s.data.toList = if zAw (s.extract 1 k).data.toList = true then k + 1 else 0 := by
 have e0 := zMx s 0 h0 hc
 rw [List.drop_zero, show (0 + 1 : Nat) = 1 from rfl] at e0
 have et : (s.extract 1 s.size).data.toList = (s.extract 1 k).data.toList ++ 59 :: s.data.toList.drop (k + 1) := by
  rw [zBy, Lib.extract_data]
  have e1 : s.data.toList.drop k = 59 :: s.data.toList.drop (k + 1) := by rw [zCe s k hk, zFu h59 (by omega)]; rfl
  rw [← e1]
  conv => lhs; rw [← List.take_append_drop (k - 1) (s.data.toList.drop 1)]
  rw [List.drop_drop, show 1 + (k - 1) = k by omega]
 by_cases hN : zAw (s.extract 1 k).data.toList = true
 · rw [if_pos hN]
   have hN' := (zC9 _).1 hN
   have e2 := zL0 (rest := s.data.toList.drop (k + 1)) hN'
   rw [← et] at e2
   have e3 : (s.extract 1 k).data.toList.length = k - 1 := by
    rw [Lib.extract_data, List.length_take, List.length_drop, ← zA7]; omega
   rw [e0, e2, e3, if_pos]
   · omega
   · refine ⟨by have := hN'.1; omega, ?_⟩
     rw [zFm s 1 (k - 1) (by omega)]
     have : 1 + (k - 1) = k := by omega
     simp only [this]; exact h59
 · rw [if_neg hN, e0, if_neg]
   rintro ⟨h1, h2⟩
   apply hN
   rw [zC9]
   have hlt : nl (s.extract 1 s.size).data.toList < (s.data.toList.drop 1).length := by
    rcases Nat.lt_or_ge (nl (s.extract 1 s.size).data.toList) (s.data.toList.drop 1).length with h | h
    · exact h
    · rw [List.getElem?_eq_none h] at h2; cases h2
   rw [List.length_drop, ← zA7] at hlt
   have h3 := (zFm s 1 _ (by omega)).1 h2
   have h4 := zEl h1
   obtain ⟨K, hK⟩ : ∃ K, nl (s.extract 1 s.size).data.toList = K := ⟨_, rfl⟩
   simp only [hK] at h3 h4 hlt h1
   have hKk : 1 + K = k := by
    rcases Nat.lt_trichotomy (1 + K) k with h | h | h
    · exact absurd h3 (hn (1 + K) (by omega) h (by omega))
    · exact h
    · exfalso
      have := zTj (l := (s.extract 1 s.size).data.toList) (j := k - 1) (by omega)
      obtain ⟨c, h5, h6⟩ := this
      rw [zBy, List.getElem?_drop, show 1 + (k - 1) = k by omega, zDg s k hk] at h5
      cases h5
      rw [zFu h59 (by omega)] at h6
      exact absurd h6 (by rw [show UInt8.ofNat 59 = 59 from rfl, zIr]; simp)
   rw [zBy] at h4
   rw [Lib.extract_data, show k - 1 = K by omega]
   exact h4
theorem zO8 (s : ByteArray) (h0 : 0 < s.size) (hc : s[0].toNat = 76) (hn : zKh s s.size) : base s.data.toList = 0 := by
 have e0 := zMx s 0 h0 hc
 rw [List.drop_zero, show (0 + 1 : Nat) = 1 from rfl] at e0
 rw [e0, if_neg]
 rintro ⟨h1, h2⟩
 have hlt : nl (s.extract 1 s.size).data.toList < (s.data.toList.drop 1).length := by
  rcases Nat.lt_or_ge (nl (s.extract 1 s.size).data.toList) (s.data.toList.drop 1).length with h | h
  · exact h
  · rw [List.getElem?_eq_none h] at h2; cases h2
 rw [List.length_drop, ← zA7] at hlt
 exact hn _ (by omega) (by omega) (by omega) ((zFm s 1 _ (by omega)).1 h2)
theorem zOm (s : ByteArray) (w : World) (hs : s.size ≤ 9223372036854775807) (h0 : 0 < s.size) (hc : s[0].toNat ≠ 91) :
 Calls Tryz.prog 128 #[.string s] w fun e w' => e = .returned (.int .i64 (base s.data.toList)) ∧ w' = w := by
 have e2 := zCg s h0
 have b0 : ((s[0].toNat : Int) == 91) = false := by simp; omega
 by_cases c1 : s[0].toNat = 73
 · have e := zP3 s 0 h0 c1
   rw [List.drop_zero] at e
   rw [e]
   have b1 : ((s[0].toNat : Int) == 73) = true := by simp; omega
   go_enter Tryz.func128, Tryz.ntmps128
   go_wp2
   go_ret
   exact ⟨rfl, rfl⟩
 · have b1 : ((s[0].toNat : Int) == 73) = false := by simp; omega
   by_cases c2 : s[0].toNat = 76
   · have b2 : ((s[0].toNat : Int) == 76) = true := by simp; omega
     go_enter Tryz.func128, Tryz.ntmps128
     go_wp2
     go_loop [4] (fun n => ∃ (k : Nat), n = .int .i64 (k : Int) ∧ 1 ≤ k ∧ k ≤ s.size ∧ Hid (zKh s k)) (fun i => s.size - (intOf i).toNat)
     case atStart =>
      exact ⟨1, rfl, by omega, by omega, fun j h1 h2 => by omega⟩
     case round =>
      obtain ⟨k, rfl, hk1, hk, hns⟩ := hrel
      by_cases h1 : k < s.size
      · have h1' : (k : Int) < (s.size : Int) := by omega
        by_cases h2 : s[k].toNat = 59
        · have b3 : ((s[k].toNat : Int) == 59) = true := by simp; omega
          have F := zA0 (zQi s k h0 c2 hns.out hk1 h1 h2)
          have hN := zA0 (zDe (s.extract 1 k) w (by rw [zA7, Lib.extract_data, List.length_take, List.length_drop, ← zA7]; omega))
          by_cases h3 : zAw (s.extract 1 k).data.toList = true
          · rw [h3] at hN F
            clear h3
            go_wp2_with fail
            refine hN.out.mono ?_
            rintro e w' ⟨rfl, hww⟩; cases hww
            go_wp2
            go_ret
            exact ⟨zC4 (by rw [F.out]; simp), rfl⟩
          · simp only [Bool.not_eq_true] at h3
            rw [h3] at hN F
            clear h3
            go_wp2_with fail
            refine hN.out.mono ?_
            rintro e w' ⟨rfl, hww⟩; cases hww
            go_wp2
            go_ret
            exact ⟨zC4 (by rw [F.out]; simp), rfl⟩
        · have b3 : ((s[k].toNat : Int) == 59) = false := by simp; omega
          go_wp2
          exact ⟨⟨k + 1, by go_num, by omega, by omega, hns.out.more h1 h2⟩, by simp [intOf]; omega⟩
      · have h1' : ¬ (k : Int) < (s.size : Int) := by omega
        obtain rfl : k = s.size := by omega
        have F := zA0 (zO8 s h0 c2 hns.out)
        go_wp2
        go_ret
        exact ⟨by rw [F.out]; rfl, rfl⟩
   · have e := zLc s 0 h0 c1 c2
     rw [List.drop_zero] at e
     rw [e]
     have b2 : ((s[0].toNat : Int) == 76) = false := by simp; omega
     go_enter Tryz.func128, Tryz.ntmps128
     go_wp2
     go_ret
     exact ⟨rfl, rfl⟩
theorem zQt (t : Bs) : base (91 :: t) = 0 := by simp [base]
theorem zGf (s : ByteArray) (w : World) (hs : s.size ≤ 9223372036854775807) :
 Calls Tryz.prog 128 #[.string s] w fun e w' => e = .returned (.int .i64 (flen s.data.toList)) ∧ w' = w := by
 by_cases h : s.size = 0
 · have e1 : s.data.toList = [] := List.eq_nil_of_length_eq_zero (by rw [← zA7]; exact h)
   have e2 : s.toList = [] := by rw [Lib.toList_data]; exact e1
   rw [e1]
   clear e1
   go_enter Tryz.func128, Tryz.ntmps128
   go_wp2
   go_ret
   exact ⟨rfl, rfl⟩
 · have h0 : 0 < s.size := by omega
   by_cases hc : s[0].toNat = 91
   · have e2 := zCg s h0
     have b0 : ((s[0].toNat : Int) == 91) = true := by simp; omega
     have b1 : ((s[0].toNat : Int) == 73) = false := by simp; omega
     rw [zHc s h0 hc]
     by_cases h1 : s.size = 1
     · rw [zLg s 1 (by omega), if_pos rfl]
       have h1' : ¬ (1 : Int) < (s.size : Int) := by omega
       go_enter Tryz.func128, Tryz.ntmps128
       go_wp2
       go_ret
       exact ⟨rfl, rfl⟩
     · have h1' : (1 : Int) < (s.size : Int) := by omega
       have h1n : 1 < s.size := by omega
       by_cases hd : s[1].toNat = 91
       · have b2 : ((s[1].toNat : Int) == 91) = true := by simp; omega
         have b2' : ((s[1].toNat : Int) != 91) = false := by simp; omega
         rw [zCe s 1 h1n, zFu hd (by omega), show UInt8.ofNat 91 = 91 from rfl, zQt, if_pos rfl]
         go_enter Tryz.func128, Tryz.ntmps128
         go_wp2
         go_ret
         exact ⟨rfl, rfl⟩
       · have b2 : ((s[1].toNat : Int) == 91) = false := by simp; omega
         have b2' : ((s[1].toNat : Int) != 91) = true := by simp; omega
         have z : (s.extract 1 s.size).size = s.size - 1 := by rw [zA7, zBy, List.length_drop, ← zA7]
         have hO := zA0 (zOm (s.extract 1 s.size) w (by omega) (by omega) (by
          have e := zCe s 1 h1n
          have e' := zDg (s.extract 1 s.size) 0 (by omega)
          rw [zBy, e] at e'
          simp at e'
          rw [← e']; exact hd))
         rw [zBy] at hO
         have hb := (zLr (s.data.toList)).2
         rw [zHc s h0 hc] at hb
         generalize base (s.data.toList.drop 1) = K at *
         by_cases hK : K = 0
         · subst hK
           rw [if_pos rfl]
           go_enter Tryz.func128, Tryz.ntmps128
           go_wp2_with fail
           refine hO.out.mono ?_
           rintro e w' ⟨rfl, hww⟩; cases hww
           go_wp2
           go_ret
           exact ⟨rfl, rfl⟩
         · rw [if_neg hK] at hb ⊢
           have hK' : (0 : Int) < (K : Int) := by omega
           go_enter Tryz.func128, Tryz.ntmps128
           go_wp2_with fail
           refine hO.out.mono ?_
           rintro e w' ⟨rfl, hww⟩; cases hww
           go_wp2
           go_ret
           exact ⟨zC4 (by omega), rfl⟩
   · rw [zNa s h0 hc, List.drop_zero]
     exact zOm s w hs h0 hc
theorem Tryz.info9 : (Tryz.prog.info? 9).map (fun i => (i.zero, i.size, i.bytes)) = some (some (.string ⟨#[]⟩), 1, 16) := by kernel_rfl
def zDm (ps : List Bs) : List Value := ps.map fun p => Value.string (str p)
theorem zGo (ps : List Bs) (p : Bs) : zDm (ps ++ [p]) = zDm ps ++ [Value.string (str p)] := by simp [zDm]
theorem zA4 {w : World} {B n e : Nat} {v : Value} {xs : List Value} (h : w.ownsRow B e 1 v n xs) : ∃ ao cap, v = .slice ao n cap := by
 rcases h.2 with ⟨rfl, rfl⟩ | ⟨g, cap, cur, rfl, _⟩
 · exact ⟨_, _, rfl⟩
 · exact ⟨_, _, rfl⟩
def zHf : Value → Nat
 | .slice _ n _ => n
 | _ => 0
structure Took (l : Bs) (ps : List Bs) (S : ByteArray) : Prop where
 eq : l = ps.flatten ++ S.data.toList
 fld : ∀ p ∈ ps, Fld p
theorem Took.more {l : Bs} {ps : List Bs} {S : ByteArray} (h : Took l ps S) (h0 : flen S.data.toList ≠ 0) :
 Took l (ps ++ [S.data.toList.take (flen S.data.toList)]) (S.extract (flen S.data.toList) S.size) := by
 refine ⟨?_, ?_⟩
 · rw [h.eq, zBy]; simp
 · intro p hp
   rcases List.mem_append.1 hp with hp | hp
   · exact h.fld p hp
   · simp at hp; subst hp; exact zFo h0
theorem zVd (d : UInt8) : Lib.hasPrefix [] [d] = false := rfl
theorem zJl (c d : UInt8) (t : Bs) : Lib.hasPrefix (c :: t) [d] = (d == c) := by simp [Lib.hasPrefix, List.isPrefixOf]
theorem zJr (d : UInt8) (t : Bs) : Lib.hasPrefix (d :: t) [d] = true := by rw [zJl]; simp
theorem zW2 {c d : UInt8} (t : Bs) (h : c ≠ d) : Lib.hasPrefix (c :: t) [d] = false := by rw [zJl]; simpa using fun e => h e.symm
theorem zOg (d : UInt8) (t : Bs) : Lib.trimPrefix (d :: t) [d] = t := by unfold Lib.trimPrefix; rw [zJr, if_pos rfl]; rfl
theorem zT0 (m : Nat) (l : Bs) : (lead m l).2.length ≤ l.length := by
 have h := (zGv m l).2.2.1
 have := congrArg List.length h
 rw [List.length_append] at this; omega
def zFb (l : Bs) (B : Nat) (e : Ending) (w' : World) : Prop :=
 (∃ ps r v, meth l = some (ps, r) ∧ e = .returned (.tuple #[v, .string (str r), .bool true]) ∧ w'.ownsRow B 9 1 v ps.length (zDm ps)) ∨
 (meth l = none ∧ e = .returned (.tuple #[.slice none 0 0, .string ⟨#[]⟩, .bool false]))
end Go.Proofs.YtpehimfnkmepnaaGreat.P3.D
