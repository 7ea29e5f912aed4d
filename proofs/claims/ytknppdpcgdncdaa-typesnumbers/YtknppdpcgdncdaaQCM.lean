/- Classes as the walks see them: their parts, where they lie, and what Right says of them. -/
import Derived.Test.YtknppdpcgdncdaaQCA
namespace Go.Proofs.Ytknppdpcgdncdaa.Q
open Go.RowKit D
structure FD where
  nm : ByteArray
  ds : ByteArray
  st : Bool
structure HD where
  fr : Int
  tO : Int
  aT : Int
  ty : ByteArray
structure RD where
  aT : Int
  loc : List ByteArray
  stk : List ByteArray
structure MD where
  nm : ByteArray
  ds : ByteArray
  st : Bool
  nat : Bool
  stk : Int
  loc : Int
  code : List Int
  hs : List HD
  rs : List RD
structure KD where
  nm : ByteArray
  sup : ByteArray
  pool : List CD
  fs : List FD
  ms : List MD

/-- A list lies behind a slice: one row of k cells for each. -/
def LAt {α : Type} (k : Nat) (R : World → List Value → α → Prop) (w : World) (ao : Option Addr) (c : Nat) (l : List α) : Prop :=
  l.length ≤ c ∧ c ≤ maxLen ∧ ∃ rows, RowsAt k w ao l.length rows ∧ ∀ i x, l[i]? = some x → R w (rows i) x
theorem LAt.below {α : Type} {k : Nat} {R : World → List Value → α → Prop} {w w' : World} {ao : Option Addr} {c : Nat} {l : List α} (h : LAt k R w ao c l) (hb : Below w.heap.size w w') (hR : ∀ r x, R w r x → R w' r x) : LAt k R w' ao c l := by
  obtain ⟨h1, h2, rows, h3, h4⟩ := h
  exact ⟨h1, h2, rows, h3.below hb, fun i x hx => hR _ _ (h4 i x hx)⟩
theorem LAt.take {α : Type} {k : Nat} {R : World → List Value → α → Prop} {w : World} {ao : Option Addr} {c : Nat} {l : List α} (h : LAt k R w ao c l) (n : Nat) : LAt k R w ao c (l.take n) := by
  obtain ⟨h1, h2, rows, h3, h4⟩ := h
  have hn : (l.take n).length ≤ l.length := by rw [List.length_take]; omega
  exact ⟨by omega, h2, rows, h3.take hn, fun i x hx => h4 i x (by rw [List.getElem?_take] at hx; split at hx <;> simp_all)⟩
theorem LAt.nil {α : Type} (k : Nat) (R : World → List Value → α → Prop) (w : World) (ao : Option Addr) (c : Nat) (h : c ≤ maxLen) : LAt k R w ao c [] :=
  ⟨Nat.zero_le _, h, fun _ => [], fun hn => absurd hn (by simp), fun i x hx => by simp at hx⟩
theorem LAt.big {α : Type} {k : Nat} {R : World → List Value → α → Prop} {w : World} {ao : Option Addr} {c : Nat} {l : List α} (h : LAt k R w ao c l) : l.length ≤ 9223372036854775807 := by
  have h1 := h.1; have h2 := h.2.1; unfold maxLen at h2; omega

def TextR (_ : World) (r : List Value) (s : ByteArray) : Prop := r = [.string s] ∧ s.size ≤ 9223372036854775807
def ConstR (_ : World) (r : List Value) (c : CD) : Prop := r = c.cells ∧ c.Ok
def FieldR (_ : World) (r : List Value) (f : FD) : Prop := r = [.string f.nm, .string f.ds, .bool f.st] ∧ f.nm.size ≤ 9223372036854775807 ∧ f.ds.size ≤ 9223372036854775807
def HandR (_ : World) (r : List Value) (h : HD) : Prop := r = [.int .i64 h.fr, .int .i64 h.tO, .int .i64 h.aT, .string h.ty] ∧ h.ty.size ≤ 9223372036854775807
def FrameR (w : World) (r : List Value) (f : RD) : Prop :=
  ∃ o1 c1 o2 c2, r = [.int .i64 f.aT, .slice o1 f.loc.length c1, .slice o2 f.stk.length c2] ∧ LAt 1 TextR w o1 c1 f.loc ∧ LAt 1 TextR w o2 c2 f.stk
def MethR (w : World) (r : List Value) (m : MD) : Prop :=
  ∃ o1 c1 o2 c2 o3 c3, r = [.string m.nm, .string m.ds, .bool m.st, .bool m.nat, .int .i64 m.stk, .int .i64 m.loc, .slice o1 m.code.length c1, .slice o2 m.hs.length c2, .slice o3 m.rs.length c3] ∧
    m.nm.size ≤ 9223372036854775807 ∧ m.ds.size ≤ 9223372036854775807 ∧ View w (.slice o1 m.code.length c1) m.code ∧ LAt 4 HandR w o2 c2 m.hs ∧ LAt 3 FrameR w o3 c3 m.rs
def ClassV (w : World) (v : Value) (k : KD) : Prop :=
  ∃ o1 c1 o2 c2 o3 c3, v = .agg #[.string k.nm, .string k.sup, .slice o1 k.pool.length c1, .slice o2 k.fs.length c2, .slice o3 k.ms.length c3] ∧
    k.nm.size ≤ 9223372036854775807 ∧ k.sup.size ≤ 9223372036854775807 ∧ LAt 5 ConstR w o1 c1 k.pool ∧ LAt 3 FieldR w o2 c2 k.fs ∧ LAt 9 MethR w o3 c3 k.ms
theorem FrameR.below {w w' : World} (hb : Below w.heap.size w w') {r : List Value} {f : RD} (h : FrameR w r f) : FrameR w' r f := by
  obtain ⟨o1, c1, o2, c2, e, h1, h2⟩ := h
  exact ⟨o1, c1, o2, c2, e, h1.below hb (fun _ _ h => h), h2.below hb (fun _ _ h => h)⟩
theorem MethR.below {w w' : World} (hb : Below w.heap.size w w') {r : List Value} {m : MD} (h : MethR w r m) : MethR w' r m := by
  obtain ⟨o1, c1, o2, c2, o3, c3, e, s1, s2, h1, h2, h3⟩ := h
  exact ⟨o1, c1, o2, c2, o3, c3, e, s1, s2, h1.below hb, h2.below hb (fun _ _ h => h), h3.below hb (fun _ _ h => h.below hb)⟩
theorem ClassV.below {w w' : World} (hb : Below w.heap.size w w') {v : Value} {k : KD} (h : ClassV w v k) : ClassV w' v k := by
  obtain ⟨o1, c1, o2, c2, o3, c3, e, s1, s2, h1, h2, h3⟩ := h
  exact ⟨o1, c1, o2, c2, o3, c3, e, s1, s2, h1.below hb (fun _ _ h => h), h2.below hb (fun _ _ h => h), h3.below hb (fun _ _ h => h.below hb)⟩

/-! What Right says. -/
def slotB (s : ByteArray) : Bool := (s.toList == [63]) || ((s.toList == [48]) || fieldB (bsB s))
def inB (n m : Int) : Bool := decide (0 ≤ n) && decide (n ≤ m)
def handB (h : HD) : Bool := inB h.fr 65535 && (inB h.tO 65535 && (inB h.aT 65535 && nameB (bsB h.ty)))
def placeB (f : RD) : Bool := inB f.aT 65535
def sizeB (f : RD) : Bool := decide (f.loc.length ≤ 16) && decide (f.stk.length ≤ 16)
def slotsB (f : RD) : Bool := f.loc.all slotB && f.stk.all slotB
def bodyB (m : MD) : Bool := decide (0 < m.code.length) || (decide (0 < m.hs.length) || (decide (0 < m.rs.length) || (decide (0 < m.stk) || decide (0 < m.loc))))
def marksZ (m : MD) : Int :=
  if (m.hs.all handB && m.rs.all placeB) = false then 12 else if m.rs.all sizeB = false then 3 else if m.rs.all slotsB = false then 20 else 0
def sameF (f o : FD) : Bool := (o.nm.toList == f.nm.toList) && (o.ds.toList == f.ds.toList)
def sameM (f o : MD) : Bool := (o.nm.toList == f.nm.toList) && (o.ds.toList == f.ds.toList)
def fieldZ (f : FD) (ahead : List FD) : Int := if (nameB (bsB f.nm) && fieldB (bsB f.ds)) = false then 13 else if ahead.any (sameF f) = true then 23 else 0
def methZ (m : MD) (ahead : List MD) : Int :=
  if (nameB (bsB m.nm) && methodB m.ds) = false then 13 else if ahead.any (sameM m) = true then 23
  else if (inB m.stk 16 && (inB m.loc 16 && decide (m.code.length ≤ 1024))) = false then 3
  else if (m.nat && bodyB m) = true then 12
  else if (decide (m.hs.length ≤ 64) && decide (m.rs.length ≤ 64)) = false then 4 else marksZ m
def fieldsZ : List FD → List FD → Int
  | _, [] => 0
  | a, f :: l => if fieldZ f a = 0 then fieldsZ (a ++ [f]) l else fieldZ f a
def methsZ : List MD → List MD → Int
  | _, [] => 0
  | a, f :: l => if methZ f a = 0 then methsZ (a ++ [f]) l else methZ f a
def rightZ (k : KD) : Int :=
  if (nameB (bsB k.nm) && (emptyB k.sup || nameB (bsB k.sup))) = false then 13
  else if (decide (k.pool.length ≤ 256) && (decide (k.fs.length ≤ 16) && decide (k.ms.length ≤ 16))) = false then 4
  else if k.pool.all rightB = false then 14
  else if fieldsZ [] k.fs = 0 then methsZ [] k.ms else fieldsZ [] k.fs

/-! Small functions. -/
set_option maxRecDepth 8000 in
set_option maxHeartbeats 1000000 in
theorem within_in (n m : Int) (w : World) : Calls Try.prog 76 #[.int .i64 n, .int .i64 m] w fun e w' => e = .returned (.bool (inB n m)) ∧ w' = w := by
  unfold inB
  by_cases h1 : 0 ≤ n
  · by_cases h2 : n ≤ m <;>
    · go_enter Try.func76, Try.ntmps76
      go_wp2
      go_ret
      exact ⟨by simp [h1, h2], rfl⟩
  · go_enter Try.func76, Try.ntmps76
    go_wp2
    go_ret
    exact ⟨by rw [decide_eq_false (show ¬ 0 ≤ n by omega)]; rfl, rfl⟩

set_option maxRecDepth 8000 in
set_option maxHeartbeats 1000000 in
theorem slot_any (s : ByteArray) (w : World) (hs : s.size ≤ 9223372036854775807) : Calls Try.prog 28 #[.string s] w fun e w' => e = .returned (.bool (slotB s)) ∧ w' = w := by
  have hF := D.hidIt (field_any s w hs)
  unfold slotB bsB
  generalize fieldB s.data.toList = f at *
  cases h1 : s.toList == [63]
  · cases h2 : s.toList == [48]
    · go_enter Try.func28, Try.ntmps28
      go_wp2_with (go_at_call 44; refine hF.out.mono ?_; rintro e w' ⟨rfl, hww⟩; cases hww)
      go_ret
      exact ⟨by cases f <;> rfl, rfl⟩
    · go_enter Try.func28, Try.ntmps28
      go_wp2
      go_ret
      exact ⟨rfl, rfl⟩
  · go_enter Try.func28, Try.ntmps28
    go_wp2
    go_ret
    exact ⟨rfl, rfl⟩

set_option maxRecDepth 8000 in
set_option maxHeartbeats 1000000 in
theorem methodDesc_any (s : ByteArray) (w : World) (hs : s.size ≤ 9223372036854775807) :
    Calls Try.prog 75 #[.string s] w fun e w' => e = .returned (.bool (methodB s)) ∧ Below w.heap.size w w' := by
  have hM := D.hidIt (method_any s w hs)
  go_enter Try.func75, Try.ntmps75
  go_wp2_with fail
  refine hM.out.mono ?_
  rintro e w' ⟨hb, ha⟩
  rcases ha with ⟨ps, r, v, hm, rfl, ho⟩ | ⟨hm, rfl⟩
  · have HM := D.hidIt hm
    clear hm
    by_cases h : s.size ≤ 256
    · have h' : (s.size : Int) ≤ 256 := by omega
      go_wp2
      go_ret
      exact ⟨by unfold methodB bsB; rw [HM.out, decide_eq_true h]; rfl, hb⟩
    · have h' : ¬ (s.size : Int) ≤ 256 := by omega
      go_wp2
      go_ret
      exact ⟨by unfold methodB bsB; rw [HM.out, decide_eq_false h]; show Ending.returned (.bool (decide ((s.size : Int) ≤ 256))) = _; rw [decide_eq_false (show ¬ (s.size : Int) ≤ 256 by omega)]; rfl, hb⟩
  · have HM := D.hidIt hm
    clear hm
    go_wp2
    go_ret
    exact ⟨by unfold methodB bsB; rw [HM.out]; rfl, hb⟩
end Go.Proofs.Ytknppdpcgdncdaa.Q
