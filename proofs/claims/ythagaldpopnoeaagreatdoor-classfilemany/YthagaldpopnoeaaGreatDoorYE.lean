import Derived.Test.YthagaldpopnoeaaGreatDoorCL
import Derived.Test.YthagaldpopnoeaaGreatDoorPV
import Derived.Deep.QuietTactic
import Derived.BigQuiet

/- all, over constants, handlers, frames and texts, whatever is asked of each. -/
namespace Go.Proofs.YthagaldpopnoeaaGreatDoor
open Go.RowKit

theorem balloc (w : World) (o : Obj) : Below w.heap.size w (w.alloc o) := (Below.refl _ _).alloc (Nat.le_refl _) o
theorem next {w w1 w2 : World} (h : Below w.heap.size w w1) (k : Below w1.heap.size w1 w2) : Below w.heap.size w w2 := h.trans (k.mono h.size)
/-- Rows of k cells each, one behind the other, as a slice sees them. -/
def RowsAt (k : Nat) (w : World) (ao : Option Addr) (n : Nat) (rows : Nat → List Value) : Prop :=
  0 < n → ∃ b off, ao = some ⟨b, off, none⟩ ∧ b < w.heap.size ∧ ∀ j, j < n → ∀ i v, (rows j)[i]? = some v → w.cell? ⟨b, off + j * k + i, none⟩ = some v
theorem RowsAt.below {k n : Nat} {w w' : World} {ao : Option Addr} {rows : Nat → List Value} (h : RowsAt k w ao n rows) (hb : Below w.heap.size w w') : RowsAt k w' ao n rows := by
  intro hn
  obtain ⟨b, off, e, hlt, hc⟩ := h hn
  exact ⟨b, off, e, Nat.lt_of_lt_of_le hlt hb.size, fun j hj i v hv => by rw [hb.cell (p := ⟨b, off + j * k + i, none⟩) hlt]; exact hc j hj i v hv⟩
theorem RowsAt.take {k n m : Nat} {w : World} {ao : Option Addr} {rows : Nat → List Value} (h : RowsAt k w ao n rows) (hm : m ≤ n) : RowsAt k w ao m rows := by
  intro hn
  obtain ⟨b, off, e, hlt, hc⟩ := h (by omega)
  exact ⟨b, off, e, hlt, fun j hj => hc j (by omega)⟩

/-- What is asked of one: it answers, and turns nothing old. -/
def Asks (g : Nat) (v : Value) (b : Bool) (w : World) : Prop :=
  ∀ W : World, Below w.heap.size w W → Calls Tryz.prog g #[v] W fun e w' => e = .returned (.bool b) ∧ Below W.heap.size W w'
theorem Asks.below {g : Nat} {v : Value} {b : Bool} {w w' : World} (h : Asks g v b w) (hb : Below w.heap.size w w') : Asks g v b w' :=
  fun W hW => h W (next hb hW)
def allN (n : Nat) (q : Nat → Bool) : Bool := !(anyN n fun j => !(q j))
theorem allN_list {α : Type} (l : List α) (q : Nat → Bool) (f : α → Bool) (h : ∀ i x, l[i]? = some x → q i = f x) : allN l.length q = l.all f := by
  unfold allN
  rw [anyN_list l _ (fun x => !(f x)) (fun i x hx => by rw [h i x hx]), List.all_eq_not_any_not]
def fnv (g : Nat) : Value := .func (.func g) #[] #[]

/-- The shape of a row. -/
def ShapeC (r : List Value) : Prop := ∃ (a b : Int) (s t u : ByteArray) , r = [.int .i64 a, .int .i32 b, .string s, .string t, .string u]
set_option maxRecDepth 8000 in
set_option maxHeartbeats 1000000 in
theorem cloC (g : Nat) (eg : ∀ args w, (callFunc g args).run Tryz.prog w = .ok (.enter g args) w) (r : List Value) (sh : ShapeC r) (b : Bool) (B : Nat) (w : World) (hc : w.cell? ⟨B, 0, none⟩ = some (fnv g)) (h : Asks g (.agg r.toArray) b w) :
    Calls Tryz.prog 75 #[.agg r.toArray, .pointer (some ⟨B, 0, none⟩)] w fun e w' => e = .returned (.bool (!b)) ∧ Below w.heap.size w w' := by
  obtain ⟨a, b, s, t, u, rfl⟩ := sh
  have hB : B < w.heap.size := World.block_lt_of_cell? _ _ hc
  have hca := fun o => cell_later (balloc w o) hc
  have hcall := fun o => h (w.alloc o) (balloc w o)
  unfold fnv at hca
  simp only [List.toArray] at hcall ⊢
  go_enter Tryz.func75, Tryz.ntmps75
  go_wp2_with (go_at_fn g; refine (hcall _).mono ?_; rintro e w' ⟨rfl, hb'⟩)
  go_ret
  exact ⟨rfl, next (balloc w _) hb'⟩
set_option maxRecDepth 8000 in
set_option maxHeartbeats 1000000 in
theorem allC (g : Nat) (eg : ∀ args w, (callFunc g args).run Tryz.prog w = .ok (.enter g args) w) (rows : Nat → List Value) (q : Nat → Bool) (ao : Option Addr) (n c : Nat) (w : World) (sh : ∀ j, j < n → ShapeC (rows j)) (hbig : n ≤ 9223372036854775807)
    (hr : RowsAt 5 w ao n rows) (hq : ∀ j, j < n → Asks g (.agg (rows j).toArray) (q j) w) :
    Calls Tryz.prog 36 #[.slice ao n c, fnv g] w fun e w' => e = .returned (.bool (allN n q)) ∧ Below w.heap.size w w' := by
  have hH : ∀ o, (w.alloc o).cell? ⟨w.heap.size, 0, none⟩ = some (fnv g) → Calls Tryz.prog 74 #[.slice ao n c, .func (.func 75) #[] #[.pointer (some ⟨w.heap.size, 0, none⟩)]] (w.alloc o) fun e w' => e = .returned (.bool (anyN n fun j => !(q j))) ∧ Below (w.alloc o).heap.size (w.alloc o) w' := by
    intro o ho
    refine hasQ Tryz.hasC 5 Tryz.isAgg85 Tryz.sizeOf85 rows n (fun j hj => by obtain ⟨_, _, _, _, _, e⟩ := sh j hj; rw [e]; rfl) _ 75 #[.pointer (some ⟨w.heap.size, 0, none⟩)] (enters_of Tryz.func75 (by kernel_rfl) rfl) ao c _ (fun W j hj hW => ?_) hbig (hr.below (balloc w o))
    refine (cloC g eg (rows j) (sh j hj) (q j) w.heap.size W (cell_later hW ho) ((hq j hj).below (next (balloc w o) hW))).mono ?_
    rintro e w' ⟨rfl, hb⟩
    exact ⟨rfl, next hW hb⟩
  unfold allN
  generalize (anyN n fun j => !(q j)) = X at hH ⊢
  unfold fnv at hH ⊢
  go_enter Tryz.func36, Tryz.ntmps36
  go_wp2_with (go_at_call 74; refine (hH _ (by simp)).mono ?_; rintro e w' ⟨rfl, hb'⟩)
  go_ret
  exact ⟨rfl, next (balloc w _) hb'⟩

/-- The shape of a row. -/
def ShapeH (r : List Value) : Prop := ∃ (a b c : Int) (s : ByteArray) , r = [.int .i64 a, .int .i64 b, .int .i64 c, .string s]
set_option maxRecDepth 8000 in
set_option maxHeartbeats 1000000 in
theorem cloH (g : Nat) (eg : ∀ args w, (callFunc g args).run Tryz.prog w = .ok (.enter g args) w) (r : List Value) (sh : ShapeH r) (b : Bool) (B : Nat) (w : World) (hc : w.cell? ⟨B, 0, none⟩ = some (fnv g)) (h : Asks g (.agg r.toArray) b w) :
    Calls Tryz.prog 164 #[.agg r.toArray, .pointer (some ⟨B, 0, none⟩)] w fun e w' => e = .returned (.bool (!b)) ∧ Below w.heap.size w w' := by
  obtain ⟨a, b, c, s, rfl⟩ := sh
  have hB : B < w.heap.size := World.block_lt_of_cell? _ _ hc
  have hca := fun o => cell_later (balloc w o) hc
  have hcall := fun o => h (w.alloc o) (balloc w o)
  unfold fnv at hca
  simp only [List.toArray] at hcall ⊢
  go_enter Tryz.func164, Tryz.ntmps164
  go_wp2_with (go_at_fn g; refine (hcall _).mono ?_; rintro e w' ⟨rfl, hb'⟩)
  go_ret
  exact ⟨rfl, next (balloc w _) hb'⟩
set_option maxRecDepth 8000 in
set_option maxHeartbeats 1000000 in
theorem allH (g : Nat) (eg : ∀ args w, (callFunc g args).run Tryz.prog w = .ok (.enter g args) w) (rows : Nat → List Value) (q : Nat → Bool) (ao : Option Addr) (n c : Nat) (w : World) (sh : ∀ j, j < n → ShapeH (rows j)) (hbig : n ≤ 9223372036854775807)
    (hr : RowsAt 4 w ao n rows) (hq : ∀ j, j < n → Asks g (.agg (rows j).toArray) (q j) w) :
    Calls Tryz.prog 124 #[.slice ao n c, fnv g] w fun e w' => e = .returned (.bool (allN n q)) ∧ Below w.heap.size w w' := by
  have hH : ∀ o, (w.alloc o).cell? ⟨w.heap.size, 0, none⟩ = some (fnv g) → Calls Tryz.prog 163 #[.slice ao n c, .func (.func 164) #[] #[.pointer (some ⟨w.heap.size, 0, none⟩)]] (w.alloc o) fun e w' => e = .returned (.bool (anyN n fun j => !(q j))) ∧ Below (w.alloc o).heap.size (w.alloc o) w' := by
    intro o ho
    refine hasQ Tryz.hasH 4 Tryz.isAgg71 Tryz.sizeOf71 rows n (fun j hj => by obtain ⟨_, _, _, _, e⟩ := sh j hj; rw [e]; rfl) _ 164 #[.pointer (some ⟨w.heap.size, 0, none⟩)] (enters_of Tryz.func164 (by kernel_rfl) rfl) ao c _ (fun W j hj hW => ?_) hbig (hr.below (balloc w o))
    refine (cloH g eg (rows j) (sh j hj) (q j) w.heap.size W (cell_later hW ho) ((hq j hj).below (next (balloc w o) hW))).mono ?_
    rintro e w' ⟨rfl, hb⟩
    exact ⟨rfl, next hW hb⟩
  unfold allN
  generalize (anyN n fun j => !(q j)) = X at hH ⊢
  unfold fnv at hH ⊢
  go_enter Tryz.func124, Tryz.ntmps124
  go_wp2_with (go_at_call 163; refine (hH _ (by simp)).mono ?_; rintro e w' ⟨rfl, hb'⟩)
  go_ret
  exact ⟨rfl, next (balloc w _) hb'⟩

/-- The shape of a row. -/
def ShapeR (r : List Value) : Prop := ∃ (a : Int) (o1 : Option Addr) (n1 c1 : Nat) (o2 : Option Addr) (n2 c2 : Nat) , r = [.int .i64 a, .slice o1 n1 c1, .slice o2 n2 c2]
set_option maxRecDepth 8000 in
set_option maxHeartbeats 1000000 in
theorem cloR (g : Nat) (eg : ∀ args w, (callFunc g args).run Tryz.prog w = .ok (.enter g args) w) (r : List Value) (sh : ShapeR r) (b : Bool) (B : Nat) (w : World) (hc : w.cell? ⟨B, 0, none⟩ = some (fnv g)) (h : Asks g (.agg r.toArray) b w) :
    Calls Tryz.prog 166 #[.agg r.toArray, .pointer (some ⟨B, 0, none⟩)] w fun e w' => e = .returned (.bool (!b)) ∧ Below w.heap.size w w' := by
  obtain ⟨a, o1, n1, c1, o2, n2, c2, rfl⟩ := sh
  have hB : B < w.heap.size := World.block_lt_of_cell? _ _ hc
  have hca := fun o => cell_later (balloc w o) hc
  have hcall := fun o => h (w.alloc o) (balloc w o)
  unfold fnv at hca
  simp only [List.toArray] at hcall ⊢
  go_enter Tryz.func166, Tryz.ntmps166
  go_wp2_with (go_at_fn g; refine (hcall _).mono ?_; rintro e w' ⟨rfl, hb'⟩)
  go_ret
  exact ⟨rfl, next (balloc w _) hb'⟩
set_option maxRecDepth 8000 in
set_option maxHeartbeats 1000000 in
theorem allR (g : Nat) (eg : ∀ args w, (callFunc g args).run Tryz.prog w = .ok (.enter g args) w) (rows : Nat → List Value) (q : Nat → Bool) (ao : Option Addr) (n c : Nat) (w : World) (sh : ∀ j, j < n → ShapeR (rows j)) (hbig : n ≤ 9223372036854775807)
    (hr : RowsAt 3 w ao n rows) (hq : ∀ j, j < n → Asks g (.agg (rows j).toArray) (q j) w) :
    Calls Tryz.prog 126 #[.slice ao n c, fnv g] w fun e w' => e = .returned (.bool (allN n q)) ∧ Below w.heap.size w w' := by
  have hH : ∀ o, (w.alloc o).cell? ⟨w.heap.size, 0, none⟩ = some (fnv g) → Calls Tryz.prog 165 #[.slice ao n c, .func (.func 166) #[] #[.pointer (some ⟨w.heap.size, 0, none⟩)]] (w.alloc o) fun e w' => e = .returned (.bool (anyN n fun j => !(q j))) ∧ Below (w.alloc o).heap.size (w.alloc o) w' := by
    intro o ho
    refine hasQ Tryz.hasR 3 Tryz.isAgg74 Tryz.sizeOf74 rows n (fun j hj => by obtain ⟨_, _, _, _, _, _, _, e⟩ := sh j hj; rw [e]; rfl) _ 166 #[.pointer (some ⟨w.heap.size, 0, none⟩)] (enters_of Tryz.func166 (by kernel_rfl) rfl) ao c _ (fun W j hj hW => ?_) hbig (hr.below (balloc w o))
    refine (cloR g eg (rows j) (sh j hj) (q j) w.heap.size W (cell_later hW ho) ((hq j hj).below (next (balloc w o) hW))).mono ?_
    rintro e w' ⟨rfl, hb⟩
    exact ⟨rfl, next hW hb⟩
  unfold allN
  generalize (anyN n fun j => !(q j)) = X at hH ⊢
  unfold fnv at hH ⊢
  go_enter Tryz.func126, Tryz.ntmps126
  go_wp2_with (go_at_call 165; refine (hH _ (by simp)).mono ?_; rintro e w' ⟨rfl, hb'⟩)
  go_ret
  exact ⟨rfl, next (balloc w _) hb'⟩

set_option maxRecDepth 8000 in
set_option maxHeartbeats 1000000 in
theorem cloS (g : Nat) (eg : ∀ args w, (callFunc g args).run Tryz.prog w = .ok (.enter g args) w) (s : ByteArray) (b : Bool) (B : Nat) (w : World) (hc : w.cell? ⟨B, 0, none⟩ = some (fnv g)) (h : Asks g (.string s) b w) :
    Calls Tryz.prog 188 #[.string s, .pointer (some ⟨B, 0, none⟩)] w fun e w' => e = .returned (.bool (!b)) ∧ Below w.heap.size w w' := by
  have hcall := h w (Below.refl _ _)
  unfold fnv at hc
  go_enter Tryz.func188, Tryz.ntmps188
  go_wp2_with (go_at_fn g; refine hcall.mono ?_; rintro e w' ⟨rfl, hb'⟩)
  go_ret
  exact ⟨rfl, hb'⟩
set_option maxRecDepth 8000 in
set_option maxHeartbeats 1000000 in
theorem allS (g : Nat) (eg : ∀ args w, (callFunc g args).run Tryz.prog w = .ok (.enter g args) w) (tx : Nat → ByteArray) (q : Nat → Bool) (ao : Option Addr) (n c : Nat) (w : World) (hbig : n ≤ 9223372036854775807)
    (hr : RowsAt 1 w ao n (fun j => [.string (tx j)])) (hq : ∀ j, j < n → Asks g (.string (tx j)) (q j) w) :
    Calls Tryz.prog 167 #[.slice ao n c, fnv g] w fun e w' => e = .returned (.bool (allN n q)) ∧ Below w.heap.size w w' := by
  have hH : ∀ o, (w.alloc o).cell? ⟨w.heap.size, 0, none⟩ = some (fnv g) → Calls Tryz.prog 187 #[.slice ao n c, .func (.func 188) #[] #[.pointer (some ⟨w.heap.size, 0, none⟩)]] (w.alloc o) fun e w' => e = .returned (.bool (anyN n fun j => !(q j))) ∧ Below (w.alloc o).heap.size (w.alloc o) w' := by
    intro o ho
    refine hasE Tryz.hasS (fun j => .string (tx j)) _ 188 #[.pointer (some ⟨w.heap.size, 0, none⟩)] (enters_of Tryz.func188 (by kernel_rfl) rfl) ao n c _ (fun W j hj hW => ?_) hbig ?_
    · refine (cloS g eg (tx j) (q j) w.heap.size W (cell_later hW ho) ((hq j hj).below (next (balloc w o) hW))).mono ?_
      rintro e w' ⟨rfl, hb⟩
      exact ⟨rfl, next hW hb⟩
    · intro hn
      obtain ⟨b, off, e, hb, hc⟩ := (hr.below (balloc w o)) hn
      exact ⟨b, off, e, hb, fun j hj => by have := hc j hj 0 _ rfl; simpa using this⟩
  unfold allN
  generalize (anyN n fun j => !(q j)) = X at hH ⊢
  unfold fnv at hH ⊢
  go_enter Tryz.func167, Tryz.ntmps167
  go_wp2_with (go_at_call 187; refine (hH _ (by simp)).mono ?_; rintro e w' ⟨rfl, hb'⟩)
  go_ret
  exact ⟨rfl, next (balloc w _) hb'⟩
end Go.Proofs.YthagaldpopnoeaaGreatDoor

/- Classes as the walks see them: their parts, where they lie, and what Right says of them. -/
namespace Go.Proofs.YthagaldpopnoeaaGreatDoor
open Go.RowKit D

structure FD where
  nm : ByteArray
  ds : ByteArray
  st : Bool
structure HD where
  fr : Int
  tO : Int
  aT : Int
  ty : ByteArray
structure RD where
  aT : Int
  loc : List ByteArray
  stk : List ByteArray
structure MD where
  nm : ByteArray
  ds : ByteArray
  st : Bool
  nat : Bool
  stk : Int
  loc : Int
  code : List Int
  hs : List HD
  rs : List RD
structure KD where
  nm : ByteArray
  sup : ByteArray
  pool : List CD
  fs : List FD
  ms : List MD

/-- A list lies behind a slice: one row of k cells for each. -/
def LAt {α : Type} (k : Nat) (R : World → List Value → α → Prop) (w : World) (ao : Option Addr) (c : Nat) (l : List α) : Prop :=
  l.length ≤ c ∧ c ≤ maxLen ∧ ∃ rows, RowsAt k w ao l.length rows ∧ ∀ i x, l[i]? = some x → R w (rows i) x
theorem LAt.below {α : Type} {k : Nat} {R : World → List Value → α → Prop} {w w' : World} {ao : Option Addr} {c : Nat} {l : List α} (h : LAt k R w ao c l) (hb : Below w.heap.size w w') (hR : ∀ r x, R w r x → R w' r x) : LAt k R w' ao c l := by
  obtain ⟨h1, h2, rows, h3, h4⟩ := h
  exact ⟨h1, h2, rows, h3.below hb, fun i x hx => hR _ _ (h4 i x hx)⟩
theorem LAt.take {α : Type} {k : Nat} {R : World → List Value → α → Prop} {w : World} {ao : Option Addr} {c : Nat} {l : List α} (h : LAt k R w ao c l) (n : Nat) : LAt k R w ao c (l.take n) := by
  obtain ⟨h1, h2, rows, h3, h4⟩ := h
  have hn : (l.take n).length ≤ l.length := by rw [List.length_take]; omega
  exact ⟨by omega, h2, rows, h3.take hn, fun i x hx => h4 i x (by rw [List.getElem?_take] at hx; split at hx <;> simp_all)⟩
theorem LAt.nil {α : Type} (k : Nat) (R : World → List Value → α → Prop) (w : World) (ao : Option Addr) (c : Nat) (h : c ≤ maxLen) : LAt k R w ao c [] :=
  ⟨Nat.zero_le _, h, fun _ => [], fun hn => absurd hn (by simp), fun i x hx => by simp at hx⟩
theorem LAt.big {α : Type} {k : Nat} {R : World → List Value → α → Prop} {w : World} {ao : Option Addr} {c : Nat} {l : List α} (h : LAt k R w ao c l) : l.length ≤ 9223372036854775807 := by
  have h1 := h.1; have h2 := h.2.1; unfold maxLen at h2; omega

def TextR (_ : World) (r : List Value) (s : ByteArray) : Prop := r = [.string s] ∧ s.size ≤ 9223372036854775807
def ConstR (_ : World) (r : List Value) (c : CD) : Prop := r = c.cells ∧ c.Ok
def FieldR (_ : World) (r : List Value) (f : FD) : Prop := r = [.string f.nm, .string f.ds, .bool f.st] ∧ f.nm.size ≤ 9223372036854775807 ∧ f.ds.size ≤ 9223372036854775807
def HandR (_ : World) (r : List Value) (h : HD) : Prop := r = [.int .i64 h.fr, .int .i64 h.tO, .int .i64 h.aT, .string h.ty] ∧ h.ty.size ≤ 9223372036854775807
def FrameR (w : World) (r : List Value) (f : RD) : Prop :=
  ∃ o1 c1 o2 c2, r = [.int .i64 f.aT, .slice o1 f.loc.length c1, .slice o2 f.stk.length c2] ∧ LAt 1 TextR w o1 c1 f.loc ∧ LAt 1 TextR w o2 c2 f.stk
def MethR (w : World) (r : List Value) (m : MD) : Prop :=
  ∃ o1 c1 o2 c2 o3 c3, r = [.string m.nm, .string m.ds, .bool m.st, .bool m.nat, .int .i64 m.stk, .int .i64 m.loc, .slice o1 m.code.length c1, .slice o2 m.hs.length c2, .slice o3 m.rs.length c3] ∧
    m.nm.size ≤ 9223372036854775807 ∧ m.ds.size ≤ 9223372036854775807 ∧ View w (.slice o1 m.code.length c1) m.code ∧ LAt 4 HandR w o2 c2 m.hs ∧ LAt 3 FrameR w o3 c3 m.rs
def ClassV (w : World) (v : Value) (k : KD) : Prop :=
  ∃ o1 c1 o2 c2 o3 c3, v = .agg #[.string k.nm, .string k.sup, .slice o1 k.pool.length c1, .slice o2 k.fs.length c2, .slice o3 k.ms.length c3] ∧
    k.nm.size ≤ 9223372036854775807 ∧ k.sup.size ≤ 9223372036854775807 ∧ LAt 5 ConstR w o1 c1 k.pool ∧ LAt 3 FieldR w o2 c2 k.fs ∧ LAt 9 MethR w o3 c3 k.ms
theorem FrameR.below {w w' : World} (hb : Below w.heap.size w w') {r : List Value} {f : RD} (h : FrameR w r f) : FrameR w' r f := by
  obtain ⟨o1, c1, o2, c2, e, h1, h2⟩ := h
  exact ⟨o1, c1, o2, c2, e, h1.below hb (fun _ _ h => h), h2.below hb (fun _ _ h => h)⟩
theorem MethR.below {w w' : World} (hb : Below w.heap.size w w') {r : List Value} {m : MD} (h : MethR w r m) : MethR w' r m := by
  obtain ⟨o1, c1, o2, c2, o3, c3, e, s1, s2, h1, h2, h3⟩ := h
  exact ⟨o1, c1, o2, c2, o3, c3, e, s1, s2, h1.below hb, h2.below hb (fun _ _ h => h), h3.below hb (fun _ _ h => h.below hb)⟩
theorem ClassV.below {w w' : World} (hb : Below w.heap.size w w') {v : Value} {k : KD} (h : ClassV w v k) : ClassV w' v k := by
  obtain ⟨o1, c1, o2, c2, o3, c3, e, s1, s2, h1, h2, h3⟩ := h
  exact ⟨o1, c1, o2, c2, o3, c3, e, s1, s2, h1.below hb (fun _ _ h => h), h2.below hb (fun _ _ h => h), h3.below hb (fun _ _ h => h.below hb)⟩

/-! What Right says. -/
def slotB (s : ByteArray) : Bool := (s.toList == [63]) || ((s.toList == [48]) || fieldB (bsB s))
def inB (n m : Int) : Bool := decide (0 ≤ n) && decide (n ≤ m)
def handB (h : HD) : Bool := inB h.fr 65535 && (inB h.tO 65535 && (inB h.aT 65535 && nameB (bsB h.ty)))
def placeB (f : RD) : Bool := inB f.aT 65535
def sizeB (f : RD) : Bool := decide (f.loc.length ≤ 16) && decide (f.stk.length ≤ 16)
def slotsB (f : RD) : Bool := f.loc.all slotB && f.stk.all slotB
def bodyB (m : MD) : Bool := decide (0 < m.code.length) || (decide (0 < m.hs.length) || (decide (0 < m.rs.length) || (decide (0 < m.stk) || decide (0 < m.loc))))
def marksZ (m : MD) : Int :=
  if (m.hs.all handB && m.rs.all placeB) = false then 12 else if m.rs.all sizeB = false then 3 else if m.rs.all slotsB = false then 20 else 0
def sameF (f o : FD) : Bool := (o.nm.toList == f.nm.toList) && (o.ds.toList == f.ds.toList)
def sameM (f o : MD) : Bool := (o.nm.toList == f.nm.toList) && (o.ds.toList == f.ds.toList)
def fieldZ (f : FD) (ahead : List FD) : Int := if (nameB (bsB f.nm) && fieldB (bsB f.ds)) = false then 13 else if ahead.any (sameF f) = true then 23 else 0
def methZ (m : MD) (ahead : List MD) : Int :=
  if (nameB (bsB m.nm) && methodB m.ds) = false then 13 else if ahead.any (sameM m) = true then 23
  else if (inB m.stk 16 && (inB m.loc 16 && decide (m.code.length ≤ 1024))) = false then 3
  else if (m.nat && bodyB m) = true then 12
  else if (decide (m.hs.length ≤ 64) && decide (m.rs.length ≤ 64)) = false then 4 else marksZ m
def fieldsZ : List FD → List FD → Int
  | _, [] => 0
  | a, f :: l => if fieldZ f a = 0 then fieldsZ (a ++ [f]) l else fieldZ f a
def methsZ : List MD → List MD → Int
  | _, [] => 0
  | a, f :: l => if methZ f a = 0 then methsZ (a ++ [f]) l else methZ f a
def rightZ (k : KD) : Int :=
  if (nameB (bsB k.nm) && (emptyB k.sup || nameB (bsB k.sup))) = false then 13
  else if (decide (k.pool.length ≤ 256) && (decide (k.fs.length ≤ 16) && decide (k.ms.length ≤ 16))) = false then 4
  else if k.pool.all rightB = false then 14
  else if fieldsZ [] k.fs = 0 then methsZ [] k.ms else fieldsZ [] k.fs

/-! Small functions. -/
set_option maxRecDepth 8000 in
set_option maxHeartbeats 1000000 in
theorem within_in (n m : Int) (w : World) : Calls Tryz.prog 84 #[.int .i64 n, .int .i64 m] w fun e w' => e = .returned (.bool (inB n m)) ∧ w' = w := by
  unfold inB
  by_cases h1 : 0 ≤ n
  · by_cases h2 : n ≤ m <;>
    · go_enter Tryz.func84, Tryz.ntmps84
      go_wp2
      go_ret
      exact ⟨by simp [h1, h2], rfl⟩
  · go_enter Tryz.func84, Tryz.ntmps84
    go_wp2
    go_ret
    exact ⟨by rw [decide_eq_false (show ¬ 0 ≤ n by omega)]; rfl, rfl⟩

set_option maxRecDepth 8000 in
set_option maxHeartbeats 1000000 in
theorem slot_any (s : ByteArray) (w : World) (hs : s.size ≤ 9223372036854775807) : Calls Tryz.prog 12 #[.string s] w fun e w' => e = .returned (.bool (slotB s)) ∧ w' = w := by
  have hF := D.hidIt (field_any s w hs)
  unfold slotB bsB
  generalize fieldB s.data.toList = f at *
  cases h1 : s.toList == [63]
  · cases h2 : s.toList == [48]
    · go_enter Tryz.func12, Tryz.ntmps12
      go_wp2_with (go_at_call 40; refine hF.out.mono ?_; rintro e w' ⟨rfl, hww⟩; cases hww)
      go_ret
      exact ⟨by cases f <;> rfl, rfl⟩
    · go_enter Tryz.func12, Tryz.ntmps12
      go_wp2
      go_ret
      exact ⟨rfl, rfl⟩
  · go_enter Tryz.func12, Tryz.ntmps12
    go_wp2
    go_ret
    exact ⟨rfl, rfl⟩

set_option maxRecDepth 8000 in
set_option maxHeartbeats 1000000 in
theorem methodDesc_any (s : ByteArray) (w : World) (hs : s.size ≤ 9223372036854775807) :
    Calls Tryz.prog 82 #[.string s] w fun e w' => e = .returned (.bool (methodB s)) ∧ Below w.heap.size w w' := by
  have hM := D.hidIt (method_any s w hs)
  go_enter Tryz.func82, Tryz.ntmps82
  go_wp2_with fail
  refine hM.out.mono ?_
  rintro e w' ⟨hb, ha⟩
  rcases ha with ⟨ps, r, v, hm, rfl, ho⟩ | ⟨hm, rfl⟩
  · have HM := D.hidIt hm
    clear hm
    by_cases h : s.size ≤ 256
    · have h' : (s.size : Int) ≤ 256 := by omega
      go_wp2
      go_ret
      exact ⟨by unfold methodB bsB; rw [HM.out, decide_eq_true h]; rfl, hb⟩
    · have h' : ¬ (s.size : Int) ≤ 256 := by omega
      go_wp2
      go_ret
      exact ⟨by unfold methodB bsB; rw [HM.out, decide_eq_false h]; show Ending.returned (.bool (decide ((s.size : Int) ≤ 256))) = _; rw [decide_eq_false (show ¬ (s.size : Int) ≤ 256 by omega)]; rfl, hb⟩
  · have HM := D.hidIt hm
    clear hm
    go_wp2
    go_ret
    exact ⟨by unfold methodB bsB; rw [HM.out]; rfl, hb⟩
end Go.Proofs.YthagaldpopnoeaaGreatDoor

/- What is asked of handlers, frames and the marks of a method: walked. -/
namespace Go.Proofs.YthagaldpopnoeaaGreatDoor
open Go.RowKit D

theorem hidden {p : Prop} (h : p) : Hid p := h
set_option maxRecDepth 8000 in
set_option maxHeartbeats 1000000 in
theorem handler_any (h : HD) (w : World) : Calls Tryz.prog 125 #[.agg #[.int .i64 h.fr, .int .i64 h.tO, .int .i64 h.aT, .string h.ty]] w fun e w' => e = .returned (.bool (handB h)) ∧ Below w.heap.size w w' := by
  have h1 := fun w => D.hidIt (within_in h.fr 65535 w)
  have h2 := fun w => D.hidIt (within_in h.tO 65535 w)
  have h3 := fun w => D.hidIt (within_in h.aT 65535 w)
  have h4 := fun w => D.hidIt (name_any h.ty w)
  unfold handB bsB
  generalize inB h.fr 65535 = a at *
  generalize inB h.tO 65535 = b at *
  generalize inB h.aT 65535 = c at *
  generalize nameB h.ty.data.toList = d at *
  obtain ⟨fr, tO, aT, ty⟩ := h
  simp only at h1 h2 h3 h4 ⊢
  cases a
  · go_enter Tryz.func125, Tryz.ntmps125
    go_wp2_with fail
    refine (h1 _).out.mono ?_
    rintro e w' ⟨rfl, hww⟩; cases hww
    go_wp2
    go_ret
    exact ⟨rfl, balloc _ _⟩
  cases b
  · go_enter Tryz.func125, Tryz.ntmps125
    go_wp2_with fail
    refine (h1 _).out.mono ?_
    rintro e w' ⟨rfl, hww⟩; cases hww
    go_wp2_with fail
    refine (h2 _).out.mono ?_
    rintro e w' ⟨rfl, hww⟩; cases hww
    go_wp2
    go_ret
    exact ⟨rfl, balloc _ _⟩
  cases c
  · go_enter Tryz.func125, Tryz.ntmps125
    go_wp2_with fail
    refine (h1 _).out.mono ?_
    rintro e w' ⟨rfl, hww⟩; cases hww
    go_wp2_with fail
    refine (h2 _).out.mono ?_
    rintro e w' ⟨rfl, hww⟩; cases hww
    go_wp2_with fail
    refine (h3 _).out.mono ?_
    rintro e w' ⟨rfl, hww⟩; cases hww
    go_wp2
    go_ret
    exact ⟨rfl, balloc _ _⟩
  · go_enter Tryz.func125, Tryz.ntmps125
    go_wp2_with fail
    refine (h1 _).out.mono ?_
    rintro e w' ⟨rfl, hww⟩; cases hww
    go_wp2_with fail
    refine (h2 _).out.mono ?_
    rintro e w' ⟨rfl, hww⟩; cases hww
    go_wp2_with fail
    refine (h3 _).out.mono ?_
    rintro e w' ⟨rfl, hww⟩; cases hww
    go_wp2_with fail
    refine (h4 _).out.mono ?_
    rintro e w' ⟨rfl, hww⟩; cases hww
    go_wp2
    go_ret
    exact ⟨by cases d <;> rfl, balloc _ _⟩

set_option maxRecDepth 8000 in
set_option maxHeartbeats 1000000 in
theorem place_any (a : Int) (o1 : Option Addr) (n1 c1 : Nat) (o2 : Option Addr) (n2 c2 : Nat) (w : World) : Calls Tryz.prog 127 #[.agg #[.int .i64 a, .slice o1 n1 c1, .slice o2 n2 c2]] w fun e w' => e = .returned (.bool (inB a 65535)) ∧ Below w.heap.size w w' := by
  have h1 := fun w => D.hidIt (within_in a 65535 w)
  go_enter Tryz.func127, Tryz.ntmps127
  go_wp2_with (go_at_call 84; refine (h1 _).out.mono ?_; rintro e w' ⟨rfl, hww⟩; cases hww)
  go_ret
  exact ⟨rfl, balloc _ _⟩

set_option maxRecDepth 8000 in
set_option maxHeartbeats 1000000 in
theorem size_any (a : Int) (o1 : Option Addr) (n1 c1 : Nat) (o2 : Option Addr) (n2 c2 : Nat) (w : World) : Calls Tryz.prog 128 #[.agg #[.int .i64 a, .slice o1 n1 c1, .slice o2 n2 c2]] w fun e w' => e = .returned (.bool (decide (n1 ≤ 16) && decide (n2 ≤ 16))) ∧ Below w.heap.size w w' := by
  by_cases h1 : n1 ≤ 16
  · have h1' : (n1 : Int) ≤ 16 := by omega
    by_cases h2 : n2 ≤ 16
    · have h2' : (n2 : Int) ≤ 16 := by omega
      go_enter Tryz.func128, Tryz.ntmps128
      go_wp2
      go_ret
      exact ⟨by first | rfl | (rw [decide_eq_true h1, decide_eq_true h2]; rfl), balloc _ _⟩
    · have h2' : ¬ (n2 : Int) ≤ 16 := by omega
      go_enter Tryz.func128, Tryz.ntmps128
      go_wp2
      go_ret
      exact ⟨by first | rfl | (rw [decide_eq_true h1, decide_eq_false h2]; rfl), balloc _ _⟩
  · have h1' : ¬ (n1 : Int) ≤ 16 := by omega
    go_enter Tryz.func128, Tryz.ntmps128
    go_wp2
    go_ret
    exact ⟨by first | rfl | (rw [decide_eq_false h1]; rfl), balloc _ _⟩

/-- Texts that lie in memory, asked by Slot. -/
theorem allSlots (ao : Option Addr) (c : Nat) (l : List ByteArray) (w : World) (h : LAt 1 TextR w ao c l) : Calls Tryz.prog 167 #[.slice ao l.length c, fnv 12] w fun e w' => e = .returned (.bool (l.all slotB)) ∧ Below w.heap.size w w' := by
  obtain ⟨h1, h2, rows, h3, h4⟩ := h
  have hr : RowsAt 1 w ao l.length (fun j => [.string (l.getD j ⟨#[]⟩)]) := by
    intro hn
    obtain ⟨b, off, e, hlt, hc⟩ := h3 hn
    refine ⟨b, off, e, hlt, fun j hj i v hv => ?_⟩
    have := (h4 j l[j] (List.getElem?_eq_getElem hj)).1
    refine hc j hj i v ?_
    rw [this, ← hv]
    simp [List.getD_eq_getElem?_getD, List.getElem?_eq_getElem hj]
  have := allS 12 (enters_of Tryz.func12 (by kernel_rfl) rfl) (fun j => l.getD j ⟨#[]⟩) (fun j => slotB (l.getD j ⟨#[]⟩)) ao l.length c w (by unfold maxLen at h2; omega) hr (fun j hj W hW => by
    have h5 := (h4 j l[j] (List.getElem?_eq_getElem hj)).2
    have e : l.getD j ⟨#[]⟩ = l[j] := by simp [List.getD_eq_getElem?_getD, List.getElem?_eq_getElem hj]
    rw [e]
    refine (slot_any _ W h5).mono ?_
    rintro e w' ⟨rfl, rfl⟩
    exact ⟨rfl, Below.refl _ _⟩)
  rw [allN_list l _ slotB (fun i x hx => by rw [List.getD_eq_getElem?_getD, hx]; rfl)] at this
  exact this

set_option maxRecDepth 8000 in
set_option maxHeartbeats 1000000 in
theorem slots_any (a : Int) (o1 : Option Addr) (c1 : Nat) (o2 : Option Addr) (c2 : Nat) (l1 l2 : List ByteArray) (w : World) (k1 : LAt 1 TextR w o1 c1 l1) (k2 : LAt 1 TextR w o2 c2 l2) : Calls Tryz.prog 129 #[.agg #[.int .i64 a, .slice o1 l1.length c1, .slice o2 l2.length c2]] w fun e w' => e = .returned (.bool (l1.all slotB && l2.all slotB)) ∧ Below w.heap.size w w' := by
  have h1 := fun o => D.hidIt (allSlots o1 c1 l1 (w.alloc o) (k1.below (balloc _ _) (fun _ _ h => h)))
  have h2 := fun W (hW : Below w.heap.size w W) => D.hidIt (allSlots o2 c2 l2 W (k2.below hW (fun _ _ h => h)))
  generalize l1.all slotB = x at *
  generalize l2.all slotB = y at *
  generalize l1.length = n1 at *
  generalize l2.length = n2 at *
  unfold fnv at h1 h2
  cases x
  · go_enter Tryz.func129, Tryz.ntmps129
    go_wp2_with (go_at_call 167; refine (h1 _).out.mono ?_; rintro e w' ⟨rfl, hb⟩)
    go_ret
    exact ⟨rfl, next (balloc _ _) hb⟩
  · go_enter Tryz.func129, Tryz.ntmps129
    go_wp2_with fail
    refine (h1 _).out.mono ?_
    rintro e w1 ⟨rfl, hb⟩
    have hb1 := next (balloc _ _) hb
    have hc := cell_later hb (show (w.alloc (.cells #[.int .i64 a, .slice o1 n1 c1, .slice o2 n2 c2] 74)).cell? ⟨w.heap.size, 2, none⟩ = some (.slice o2 n2 c2) by simp)
    have h2' := h2 w1 hb1
    clear h2 h1
    go_wp2_with (go_at_call 167; refine h2'.out.mono ?_; rintro e w2 ⟨rfl, hb2⟩)
    go_ret
    exact ⟨by cases y <;> rfl, next hb1 hb2⟩

/-- A list of frames, asked by a function of one. -/
theorem allFrames (g : Nat) (eg : ∀ args w, (callFunc g args).run Tryz.prog w = .ok (.enter g args) w) (f : RD → Bool)
    (hg : ∀ (W : World) (r : List Value) (x : RD), FrameR W r x → Calls Tryz.prog g #[.agg r.toArray] W fun e w' => e = .returned (.bool (f x)) ∧ Below W.heap.size W w')
    (ao : Option Addr) (c : Nat) (l : List RD) (w : World) (h : LAt 3 FrameR w ao c l) : Calls Tryz.prog 126 #[.slice ao l.length c, fnv g] w fun e w' => e = .returned (.bool (l.all f)) ∧ Below w.heap.size w w' := by
  have hbig := h.big
  obtain ⟨h1, h2, rows, h3, h4⟩ := h
  have := allR g eg rows (fun j => f (l.getD j ⟨0, [], []⟩)) ao l.length c w (fun j hj => by
      obtain ⟨o1, c1, o2, c2, e, _, _⟩ := h4 j l[j] (List.getElem?_eq_getElem hj)
      exact ⟨_, _, _, _, _, _, _, e⟩) hbig h3 (fun j hj W hW => by
    have e : l.getD j ⟨0, [], []⟩ = l[j] := by simp [List.getD_eq_getElem?_getD, List.getElem?_eq_getElem hj]
    rw [e]
    exact hg W _ _ ((h4 j l[j] (List.getElem?_eq_getElem hj)).below hW))
  rw [allN_list l _ f (fun i x hx => by rw [List.getD_eq_getElem?_getD, hx]; rfl)] at this
  exact this
theorem allHandlers (ao : Option Addr) (c : Nat) (l : List HD) (w : World) (h : LAt 4 HandR w ao c l) : Calls Tryz.prog 124 #[.slice ao l.length c, fnv 125] w fun e w' => e = .returned (.bool (l.all handB)) ∧ Below w.heap.size w w' := by
  have hbig := h.big
  obtain ⟨h1, h2, rows, h3, h4⟩ := h
  have := allH 125 (enters_of Tryz.func125 (by kernel_rfl) rfl) rows (fun j => handB (l.getD j ⟨0, 0, 0, ⟨#[]⟩⟩)) ao l.length c w (fun j hj => by
      exact ⟨_, _, _, _, (h4 j l[j] (List.getElem?_eq_getElem hj)).1⟩) hbig h3 (fun j hj W hW => by
    have e : l.getD j ⟨0, 0, 0, ⟨#[]⟩⟩ = l[j] := by simp [List.getD_eq_getElem?_getD, List.getElem?_eq_getElem hj]
    rw [e, (h4 j l[j] (List.getElem?_eq_getElem hj)).1]
    exact handler_any _ W)
  rw [allN_list l _ handB (fun i x hx => by rw [List.getD_eq_getElem?_getD, hx]; rfl)] at this
  exact this
theorem allConsts (ao : Option Addr) (c : Nat) (l : List CD) (w : World) (h : LAt 5 ConstR w ao c l) : Calls Tryz.prog 36 #[.slice ao l.length c, fnv 37] w fun e w' => e = .returned (.bool (l.all rightB)) ∧ Below w.heap.size w w' := by
  have hbig := h.big
  obtain ⟨h1, h2, rows, h3, h4⟩ := h
  have := allC 37 (enters_of Tryz.func37 (by kernel_rfl) rfl) rows (fun j => rightB (l.getD j zeroC)) ao l.length c w (fun j hj => by
      exact ⟨_, _, _, _, _, (h4 j l[j] (List.getElem?_eq_getElem hj)).1⟩) hbig h3 (fun j hj W hW => by
    have e : l.getD j zeroC = l[j] := by simp [List.getD_eq_getElem?_getD, List.getElem?_eq_getElem hj]
    rw [e, (h4 j l[j] (List.getElem?_eq_getElem hj)).1]
    exact right_any _ W (h4 j l[j] (List.getElem?_eq_getElem hj)).2.toFits)
  rw [allN_list l _ rightB (fun i x hx => by rw [List.getD_eq_getElem?_getD, hx]; rfl)] at this
  exact this
theorem allPlaces (ao : Option Addr) (c : Nat) (l : List RD) (w : World) (h : LAt 3 FrameR w ao c l) : Calls Tryz.prog 126 #[.slice ao l.length c, fnv 127] w fun e w' => e = .returned (.bool (l.all placeB)) ∧ Below w.heap.size w w' :=
  allFrames 127 (enters_of Tryz.func127 (by kernel_rfl) rfl) placeB (fun W r x hx => by obtain ⟨o1, c1, o2, c2, rfl, _, _⟩ := hx; exact place_any _ _ _ _ _ _ _ W) ao c l w h
theorem allSizes (ao : Option Addr) (c : Nat) (l : List RD) (w : World) (h : LAt 3 FrameR w ao c l) : Calls Tryz.prog 126 #[.slice ao l.length c, fnv 128] w fun e w' => e = .returned (.bool (l.all sizeB)) ∧ Below w.heap.size w w' :=
  allFrames 128 (enters_of Tryz.func128 (by kernel_rfl) rfl) sizeB (fun W r x hx => by obtain ⟨o1, c1, o2, c2, rfl, _, _⟩ := hx; exact size_any _ _ _ _ _ _ _ W) ao c l w h
theorem allTypes (ao : Option Addr) (c : Nat) (l : List RD) (w : World) (h : LAt 3 FrameR w ao c l) : Calls Tryz.prog 126 #[.slice ao l.length c, fnv 129] w fun e w' => e = .returned (.bool (l.all slotsB)) ∧ Below w.heap.size w w' :=
  allFrames 129 (enters_of Tryz.func129 (by kernel_rfl) rfl) slotsB (fun W r x hx => by obtain ⟨o1, c1, o2, c2, rfl, k1, k2⟩ := hx; exact slots_any _ _ _ _ _ _ _ W k1 k2) ao c l w h
end Go.Proofs.YthagaldpopnoeaaGreatDoor

/- rightMarks, hasBody: walked. -/
namespace Go.Proofs.YthagaldpopnoeaaGreatDoor
open Go.RowKit D

set_option maxRecDepth 8000 in
set_option maxHeartbeats 2000000 in
theorem marks_any (m : MD) (o1 : Option Addr) (n1 c1 : Nat) (o2 : Option Addr) (c2 : Nat) (o3 : Option Addr) (c3 : Nat) (w : World) (k2 : LAt 4 HandR w o2 c2 m.hs) (k3 : LAt 3 FrameR w o3 c3 m.rs) :
    Calls Tryz.prog 86 #[.agg #[.string m.nm, .string m.ds, .bool m.st, .bool m.nat, .int .i64 m.stk, .int .i64 m.loc, .slice o1 n1 c1, .slice o2 m.hs.length c2, .slice o3 m.rs.length c3]] w fun e w' => e = .returned (.int .i64 (marksZ m)) ∧ Below w.heap.size w w' := by
  have h1 := fun o => D.hidIt (allHandlers o2 c2 m.hs (w.alloc o) (k2.below (balloc _ _) (fun _ _ h => h)))
  have h2 := fun W (hW : Below w.heap.size w W) => D.hidIt (allPlaces o3 c3 m.rs W (k3.below hW (fun _ _ h => h.below hW)))
  have h3 := fun W (hW : Below w.heap.size w W) => D.hidIt (allSizes o3 c3 m.rs W (k3.below hW (fun _ _ h => h.below hW)))
  have h4 := fun W (hW : Below w.heap.size w W) => D.hidIt (allTypes o3 c3 m.rs W (k3.below hW (fun _ _ h => h.below hW)))
  unfold marksZ
  generalize m.hs.all handB = x1 at *
  generalize m.rs.all placeB = x2 at *
  generalize m.rs.all sizeB = x3 at *
  generalize m.rs.all slotsB = x4 at *
  clear k2 k3
  generalize m.hs.length = n2 at *
  generalize m.rs.length = n3 at *
  obtain ⟨nm, ds, st, nat, stk, loc, code, hs, rs⟩ := m
  simp only at h1 h2 h3 h4 ⊢
  have hcell : ∀ W, Below (w.alloc (.cells #[.string nm, .string ds, .bool st, .bool nat, .int .i64 stk, .int .i64 loc, .slice o1 n1 c1, .slice o2 n2 c2, .slice o3 n3 c3] 26)).heap.size (w.alloc (.cells #[.string nm, .string ds, .bool st, .bool nat, .int .i64 stk, .int .i64 loc, .slice o1 n1 c1, .slice o2 n2 c2, .slice o3 n3 c3] 26)) W → W.cell? ⟨w.heap.size, 8, none⟩ = some (.slice o3 n3 c3) := fun W hW => cell_later hW (by simp)
  unfold fnv at h1 h2 h3 h4
  have B0 := balloc w (.cells #[.string nm, .string ds, .bool st, .bool nat, .int .i64 stk, .int .i64 loc, .slice o1 n1 c1, .slice o2 n2 c2, .slice o3 n3 c3] 26)
  cases x1
  · go_enter Tryz.func86, Tryz.ntmps86
    go_wp2_with fail
    refine (h1 _).out.mono ?_
    rintro e w1 ⟨rfl, b1⟩
    go_wp2
    go_ret
    exact ⟨rfl, next B0 b1⟩
  go_enter Tryz.func86, Tryz.ntmps86
  go_wp2_with fail
  refine (h1 _).out.mono ?_
  rintro e w1 ⟨rfl, b1⟩
  have l1 := hcell _ b1
  have g2 := h2 w1 (next B0 b1)
  clear h1 h2
  cases x2
  · go_wp2_with fail
    refine g2.out.mono ?_
    rintro e w2 ⟨rfl, b2⟩
    go_wp2
    go_ret
    exact ⟨rfl, next B0 (next b1 b2)⟩
  go_wp2_with fail
  refine g2.out.mono ?_
  rintro e w2 ⟨rfl, b2⟩
  have l2 := hcell _ (next b1 b2)
  have g3 := h3 w2 (next B0 (next b1 b2))
  clear h3 g2
  cases x3
  · go_wp2_with fail
    refine g3.out.mono ?_
    rintro e w3 ⟨rfl, b3⟩
    go_wp2
    go_ret
    exact ⟨rfl, next B0 (next b1 (next b2 b3))⟩
  go_wp2_with fail
  refine g3.out.mono ?_
  rintro e w3 ⟨rfl, b3⟩
  have l3 := hcell _ (next b1 (next b2 b3))
  have g4 := h4 w3 (next B0 (next b1 (next b2 b3)))
  clear h4 g3
  cases x4
  · go_wp2_with fail
    refine g4.out.mono ?_
    rintro e w4 ⟨rfl, b4⟩
    go_wp2
    go_ret
    exact ⟨rfl, next B0 (next b1 (next b2 (next b3 b4)))⟩
  go_wp2_with fail
  refine g4.out.mono ?_
  rintro e w4 ⟨rfl, b4⟩
  go_wp2
  go_ret
  exact ⟨rfl, next B0 (next b1 (next b2 (next b3 b4)))⟩

set_option maxRecDepth 8000 in
set_option maxHeartbeats 2000000 in
theorem hasBody_any (m : MD) (o1 : Option Addr) (c1 : Nat) (o2 : Option Addr) (c2 : Nat) (o3 : Option Addr) (c3 : Nat) (w : World) :
    Calls Tryz.prog 85 #[.agg #[.string m.nm, .string m.ds, .bool m.st, .bool m.nat, .int .i64 m.stk, .int .i64 m.loc, .slice o1 m.code.length c1, .slice o2 m.hs.length c2, .slice o3 m.rs.length c3]] w fun e w' => e = .returned (.bool (bodyB m)) ∧ Below w.heap.size w w' := by
  unfold bodyB
  generalize m.code.length = n1 at *
  generalize m.hs.length = n2 at *
  generalize m.rs.length = n3 at *
  obtain ⟨nm, ds, st, nat, stk, loc, code, hs, rs⟩ := m
  simp only
  have B0 := balloc w (.cells #[.string nm, .string ds, .bool st, .bool nat, .int .i64 stk, .int .i64 loc, .slice o1 n1 c1, .slice o2 n2 c2, .slice o3 n3 c3] 26)
  by_cases h1 : 0 < n1
  · have h1' : (0 : Int) < n1 := by omega
    rw [decide_eq_true h1]
    go_enter Tryz.func85, Tryz.ntmps85
    go_wp2
    go_ret
    exact ⟨rfl, B0⟩
  have h1' : ¬ (0 : Int) < n1 := by omega
  rw [decide_eq_false h1]
  by_cases h2 : 0 < n2
  · have h2' : (0 : Int) < n2 := by omega
    rw [decide_eq_true h2]
    go_enter Tryz.func85, Tryz.ntmps85
    go_wp2
    go_ret
    exact ⟨rfl, B0⟩
  have h2' : ¬ (0 : Int) < n2 := by omega
  rw [decide_eq_false h2]
  by_cases h3 : 0 < n3
  · have h3' : (0 : Int) < n3 := by omega
    rw [decide_eq_true h3]
    go_enter Tryz.func85, Tryz.ntmps85
    go_wp2
    go_ret
    exact ⟨rfl, B0⟩
  have h3' : ¬ (0 : Int) < n3 := by omega
  rw [decide_eq_false h3]
  by_cases h4 : 0 < stk
  · rw [decide_eq_true h4]
    go_enter Tryz.func85, Tryz.ntmps85
    go_wp2
    go_ret
    exact ⟨rfl, B0⟩
  rw [decide_eq_false h4]
  by_cases h5 : 0 < loc
  · rw [decide_eq_true h5]
    go_enter Tryz.func85, Tryz.ntmps85
    go_wp2
    go_ret
    exact ⟨rfl, B0⟩
  · rw [decide_eq_false h5]
    go_enter Tryz.func85, Tryz.ntmps85
    go_wp2
    go_ret
    exact ⟨rfl, B0⟩
end Go.Proofs.YthagaldpopnoeaaGreatDoor

/- rightField, rightMethod: walked. -/
namespace Go.Proofs.YthagaldpopnoeaaGreatDoor
open Go.RowKit D

set_option maxRecDepth 8000 in
set_option maxHeartbeats 2000000 in
theorem cloF_any (f o : FD) (B : Nat) (w : World) (c0 : w.cell? ⟨B, 0, none⟩ = some (.string f.nm)) (c1 : w.cell? ⟨B, 1, none⟩ = some (.string f.ds)) :
    Calls Tryz.prog 79 #[.agg #[.string o.nm, .string o.ds, .bool o.st], .pointer (some ⟨B, 0, none⟩)] w fun e w' => e = .returned (.bool (sameF f o)) ∧ Below w.heap.size w w' := by
  have a0 := fun x => cell_later (balloc w x) c0
  have a1 := fun x => cell_later (balloc w x) c1
  have B0 := balloc w (.cells #[.string o.nm, .string o.ds, .bool o.st] 63)
  unfold sameF
  obtain ⟨nm, ds, st⟩ := f
  obtain ⟨pm, ps, pt⟩ := o
  simp only at *
  cases h1 : pm.toList == nm.toList
  · go_enter Tryz.func79, Tryz.ntmps79
    go_wp2
    go_ret
    exact ⟨rfl, B0⟩
  · cases h2 : ps.toList == ds.toList <;>
    · go_enter Tryz.func79, Tryz.ntmps79
      go_wp2
      go_ret
      exact ⟨rfl, B0⟩

set_option maxRecDepth 8000 in
set_option maxHeartbeats 2000000 in
theorem cloM_any (f o : MD) (x1 x2 x3 : Option Addr) (y1 y2 y3 z1 z2 z3 : Nat) (B : Nat) (w : World) (c0 : w.cell? ⟨B, 0, none⟩ = some (.string f.nm)) (c1 : w.cell? ⟨B, 1, none⟩ = some (.string f.ds)) :
    Calls Tryz.prog 81 #[.agg #[.string o.nm, .string o.ds, .bool o.st, .bool o.nat, .int .i64 o.stk, .int .i64 o.loc, .slice x1 y1 z1, .slice x2 y2 z2, .slice x3 y3 z3], .pointer (some ⟨B, 0, none⟩)] w fun e w' => e = .returned (.bool (sameM f o)) ∧ Below w.heap.size w w' := by
  have a0 := fun x => cell_later (balloc w x) c0
  have a1 := fun x => cell_later (balloc w x) c1
  have B0 := balloc w (.cells #[.string o.nm, .string o.ds, .bool o.st, .bool o.nat, .int .i64 o.stk, .int .i64 o.loc, .slice x1 y1 z1, .slice x2 y2 z2, .slice x3 y3 z3] 26)
  unfold sameM
  obtain ⟨nm, ds, st, nat, stk, loc, code, hs, rs⟩ := f
  obtain ⟨pm, ps, pt, pnat, pstk, ploc, pcode, phs, prs⟩ := o
  simp only at *
  cases h1 : pm.toList == nm.toList
  · go_enter Tryz.func81, Tryz.ntmps81
    go_wp2
    go_ret
    exact ⟨rfl, B0⟩
  · cases h2 : ps.toList == ds.toList <;>
    · go_enter Tryz.func81, Tryz.ntmps81
      go_wp2
      go_ret
      exact ⟨rfl, B0⟩

theorem anyF (f : FD) (B : Nat) (ao : Option Addr) (c : Nat) (l : List FD) (w : World) (h : LAt 3 FieldR w ao c l) (c0 : w.cell? ⟨B, 0, none⟩ = some (.string f.nm)) (c1 : w.cell? ⟨B, 1, none⟩ = some (.string f.ds)) :
    Calls Tryz.prog 80 #[.slice ao l.length c, .func (.func 79) #[] #[.pointer (some ⟨B, 0, none⟩)]] w fun e w' => e = .returned (.bool (l.any (sameF f))) ∧ Below w.heap.size w w' := by
  have hbig := h.big
  obtain ⟨h1, h2, rows, h3, h4⟩ := h
  have := hasQ Tryz.hasF 3 Tryz.isAgg63 Tryz.sizeOf63 rows l.length (fun j hj => by rw [(h4 j l[j] (List.getElem?_eq_getElem hj)).1]; rfl) (fun j => sameF f (l.getD j ⟨⟨#[]⟩, ⟨#[]⟩, false⟩)) 79 #[.pointer (some ⟨B, 0, none⟩)] (enters_of Tryz.func79 (by kernel_rfl) rfl) ao c w (fun W j hj hW => by
    have e : l.getD j ⟨⟨#[]⟩, ⟨#[]⟩, false⟩ = l[j] := by simp [List.getD_eq_getElem?_getD, List.getElem?_eq_getElem hj]
    rw [e, (h4 j l[j] (List.getElem?_eq_getElem hj)).1]
    refine (cloF_any f l[j] B W (cell_later hW c0) (cell_later hW c1)).mono ?_
    rintro e w' ⟨rfl, hb⟩
    exact ⟨rfl, next hW hb⟩) hbig h3
  rw [anyN_list l _ (sameF f) (fun i x hx => by rw [List.getD_eq_getElem?_getD, hx]; rfl)] at this
  exact this
theorem anyM (f : MD) (B : Nat) (ao : Option Addr) (c : Nat) (l : List MD) (w : World) (h : LAt 9 MethR w ao c l) (c0 : w.cell? ⟨B, 0, none⟩ = some (.string f.nm)) (c1 : w.cell? ⟨B, 1, none⟩ = some (.string f.ds)) :
    Calls Tryz.prog 83 #[.slice ao l.length c, .func (.func 81) #[] #[.pointer (some ⟨B, 0, none⟩)]] w fun e w' => e = .returned (.bool (l.any (sameM f))) ∧ Below w.heap.size w w' := by
  have hbig := h.big
  obtain ⟨h1, h2, rows, h3, h4⟩ := h
  have := hasQ Tryz.hasM 9 Tryz.isAgg26 Tryz.sizeOf26 rows l.length (fun j hj => by obtain ⟨_, _, _, _, _, _, e, _⟩ := h4 j l[j] (List.getElem?_eq_getElem hj); rw [e]; rfl) (fun j => sameM f (l.getD j ⟨⟨#[]⟩, ⟨#[]⟩, false, false, 0, 0, [], [], []⟩)) 81 #[.pointer (some ⟨B, 0, none⟩)] (enters_of Tryz.func81 (by kernel_rfl) rfl) ao c w (fun W j hj hW => by
    have e : l.getD j ⟨⟨#[]⟩, ⟨#[]⟩, false, false, 0, 0, [], [], []⟩ = l[j] := by simp [List.getD_eq_getElem?_getD, List.getElem?_eq_getElem hj]
    obtain ⟨_, _, _, _, _, _, er, _⟩ := h4 j l[j] (List.getElem?_eq_getElem hj)
    rw [e, er]
    refine (cloM_any f l[j] _ _ _ _ _ _ _ _ _ B W (cell_later hW c0) (cell_later hW c1)).mono ?_
    rintro e w' ⟨rfl, hb⟩
    exact ⟨rfl, next hW hb⟩) hbig h3
  rw [anyN_list l _ (sameM f) (fun i x hx => by rw [List.getD_eq_getElem?_getD, hx]; rfl)] at this
  exact this

set_option maxRecDepth 8000 in
set_option maxHeartbeats 2000000 in
theorem field_right (f : FD) (ao : Option Addr) (c : Nat) (l : List FD) (w : World) (hs : f.ds.size ≤ 9223372036854775807) (h : LAt 3 FieldR w ao c l) :
    Calls Tryz.prog 38 #[.agg #[.string f.nm, .string f.ds, .bool f.st], .slice ao l.length c] w fun e w' => e = .returned (.int .i64 (fieldZ f l)) ∧ Below w.heap.size w w' := by
  have B0 := balloc w (.cells #[.string f.nm, .string f.ds, .bool f.st] 63)
  have hA := D.hidIt (anyF f w.heap.size ao c l (w.alloc (.cells #[.string f.nm, .string f.ds, .bool f.st] 63)) (h.below B0 (fun _ _ h => h)) (by simp) (by simp))
  have hN := fun W => D.hidIt (name_any f.nm W)
  have hF := fun W => D.hidIt (field_any f.ds W hs)
  unfold fieldZ bsB
  generalize l.any (sameF f) = x3 at *
  generalize nameB f.nm.data.toList = x1 at *
  generalize fieldB f.ds.data.toList = x2 at *
  clear h
  generalize l.length = n at *
  obtain ⟨nm, ds, st⟩ := f
  simp only at *
  cases x1
  · go_enter Tryz.func38, Tryz.ntmps38
    go_wp2_with fail
    refine (hN _).out.mono ?_
    rintro e w' ⟨rfl, hww⟩; cases hww
    go_wp2
    go_ret
    exact ⟨rfl, B0⟩
  go_enter Tryz.func38, Tryz.ntmps38
  go_wp2_with fail
  refine (hN _).out.mono ?_
  rintro e w' ⟨rfl, hww⟩; cases hww
  cases x2
  · go_wp2_with fail
    refine (hF _).out.mono ?_
    rintro e w' ⟨rfl, hww⟩; cases hww
    go_wp2
    go_ret
    exact ⟨rfl, B0⟩
  go_wp2_with fail
  refine (hF _).out.mono ?_
  rintro e w' ⟨rfl, hww⟩; cases hww
  cases x3 <;>
  · go_wp2_with fail
    refine hA.out.mono ?_
    rintro e w1 ⟨rfl, b1⟩
    go_wp2
    go_ret
    exact ⟨rfl, next B0 b1⟩
end Go.Proofs.YthagaldpopnoeaaGreatDoor

/- rightMethod: walked. -/
namespace Go.Proofs.YthagaldpopnoeaaGreatDoor
open Go.RowKit D

set_option maxRecDepth 8000 in
set_option maxHeartbeats 4000000 in
theorem meth_right (m : MD) (o1 : Option Addr) (c1 : Nat) (o2 : Option Addr) (c2 : Nat) (o3 : Option Addr) (c3 : Nat) (ao : Option Addr) (c : Nat) (l : List MD) (w : World) (hs : m.ds.size ≤ 9223372036854775807) (k2 : LAt 4 HandR w o2 c2 m.hs) (k3 : LAt 3 FrameR w o3 c3 m.rs) (h : LAt 9 MethR w ao c l) :
    Calls Tryz.prog 39 #[.agg #[.string m.nm, .string m.ds, .bool m.st, .bool m.nat, .int .i64 m.stk, .int .i64 m.loc, .slice o1 m.code.length c1, .slice o2 m.hs.length c2, .slice o3 m.rs.length c3], .slice ao l.length c] w fun e w' => e = .returned (.int .i64 (methZ m l)) ∧ Below w.heap.size w w' := by
  have B0 := balloc w (.cells #[.string m.nm, .string m.ds, .bool m.st, .bool m.nat, .int .i64 m.stk, .int .i64 m.loc, .slice o1 m.code.length c1, .slice o2 m.hs.length c2, .slice o3 m.rs.length c3] 26)
  have hA := fun W (hW : Below (w.alloc (.cells #[.string m.nm, .string m.ds, .bool m.st, .bool m.nat, .int .i64 m.stk, .int .i64 m.loc, .slice o1 m.code.length c1, .slice o2 m.hs.length c2, .slice o3 m.rs.length c3] 26)).heap.size (w.alloc (.cells #[.string m.nm, .string m.ds, .bool m.st, .bool m.nat, .int .i64 m.stk, .int .i64 m.loc, .slice o1 m.code.length c1, .slice o2 m.hs.length c2, .slice o3 m.rs.length c3] 26)) W) => D.hidIt (anyM m w.heap.size ao c l W (h.below (next B0 hW) (fun _ _ h => h.below (next B0 hW))) (cell_later hW (by simp)) (cell_later hW (by simp)))
  have hN := fun W => D.hidIt (name_any m.nm W)
  have hD := fun W => D.hidIt (methodDesc_any m.ds W hs)
  have hW1 := fun W => D.hidIt (within_in m.stk 16 W)
  have hW2 := fun W => D.hidIt (within_in m.loc 16 W)
  have hBd := fun W => D.hidIt (hasBody_any m o1 c1 o2 c2 o3 c3 W)
  have hM := fun W (hW : Below w.heap.size w W) => D.hidIt (marks_any m o1 m.code.length c1 o2 c2 o3 c3 W (k2.below hW (fun _ _ h => h)) (k3.below hW (fun _ _ h => h.below hW)))
  unfold methZ bsB
  generalize l.any (sameM m) = x3 at *
  generalize nameB m.nm.data.toList = x1 at *
  generalize methodB m.ds = x2 at *
  generalize inB m.stk 16 = x4 at *
  generalize inB m.loc 16 = x5 at *
  generalize bodyB m = x6 at *
  generalize marksZ m = Z at *
  clear h k2 k3
  generalize l.length = n at *
  generalize m.code.length = n1 at *
  generalize m.hs.length = n2 at *
  generalize m.rs.length = n3 at *
  obtain ⟨nm, ds, st, nat, stk, loc, code, hh, rr⟩ := m
  simp only at *
  have hcell : ∀ W, Below (w.alloc (.cells #[.string nm, .string ds, .bool st, .bool nat, .int .i64 stk, .int .i64 loc, .slice o1 n1 c1, .slice o2 n2 c2, .slice o3 n3 c3] 26)).heap.size (w.alloc (.cells #[.string nm, .string ds, .bool st, .bool nat, .int .i64 stk, .int .i64 loc, .slice o1 n1 c1, .slice o2 n2 c2, .slice o3 n3 c3] 26)) W → W.heap[w.heap.size]? = some (.cells #[.string nm, .string ds, .bool st, .bool nat, .int .i64 stk, .int .i64 loc, .slice o1 n1 c1, .slice o2 n2 c2, .slice o3 n3 c3] 26 (0, 0)) := fun W hW => (hW.block _ (by simp)).trans (heap_alloc_new _ _)
  have cells : ∀ W : World, W.heap[w.heap.size]? = some (.cells #[.string nm, .string ds, .bool st, .bool nat, .int .i64 stk, .int .i64 loc, .slice o1 n1 c1, .slice o2 n2 c2, .slice o3 n3 c3] 26 (0, 0)) → (W.cell? ⟨w.heap.size, 0, none⟩ = some (.string nm) ∧ W.cell? ⟨w.heap.size, 1, none⟩ = some (.string ds) ∧ W.cell? ⟨w.heap.size, 2, none⟩ = some (.bool st) ∧ W.cell? ⟨w.heap.size, 3, none⟩ = some (.bool nat)) ∧ (W.cell? ⟨w.heap.size, 4, none⟩ = some (.int .i64 stk) ∧ W.cell? ⟨w.heap.size, 5, none⟩ = some (.int .i64 loc) ∧ W.cell? ⟨w.heap.size, 6, none⟩ = some (.slice o1 n1 c1) ∧ W.cell? ⟨w.heap.size, 7, none⟩ = some (.slice o2 n2 c2) ∧ W.cell? ⟨w.heap.size, 8, none⟩ = some (.slice o3 n3 c3)) := by
    intro W hW
    refine ⟨⟨?_, ?_, ?_, ?_⟩, ?_, ?_, ?_, ?_, ?_⟩ <;> (rw [cell_of_row _ _ _ _ 26 (0, 0) hW]; rfl)
  generalize e1 : decide (n1 ≤ 1024) = y1
  generalize e2 : decide (n2 ≤ 64) = y2
  generalize e3 : decide (n3 ≤ 64) = y3
  have E1 := D.hidIt e1
  have E2 := D.hidIt e2
  have E3 := D.hidIt e3
  clear e1 e2 e3
  go_enter Tryz.func39, Tryz.ntmps39
  go_wp2_with fail
  refine (hN _).out.mono ?_
  rintro e w' ⟨rfl, hww⟩; cases hww
  cases x1
  · go_wp2
    go_ret
    exact ⟨rfl, B0⟩
  go_wp2_with fail
  refine (hD _).out.mono ?_
  rintro e w1 ⟨rfl, b1⟩
  cases x2
  · go_wp2
    go_ret
    exact ⟨rfl, next B0 b1⟩
  have hA' := hA w1 b1
  clear hA hD hN
  go_wp2_with fail
  refine hA'.out.mono ?_
  rintro e w2 ⟨rfl, b2⟩
  clear hA'
  cases x3
  rotate_left
  · go_wp2
    go_ret
    exact ⟨rfl, next B0 (next b1 b2)⟩
  have hb2 := next b1 b2
  obtain ⟨⟨l0, l1, l2, l3⟩, l4, l5, l6, l7, l8⟩ := cells _ (hcell _ hb2)
  go_wp2_with fail
  refine (hW1 _).out.mono ?_
  rintro e w' ⟨rfl, hww⟩; cases hww
  cases x4
  · go_wp2
    go_ret
    exact ⟨rfl, next B0 hb2⟩
  go_wp2_with fail
  refine (hW2 _).out.mono ?_
  rintro e w' ⟨rfl, hww⟩; cases hww
  cases x5
  · go_wp2
    go_ret
    exact ⟨rfl, next B0 hb2⟩
  cases y1
  · have q1' : (1024 : Int) < n1 := by have := of_decide_eq_false E1.out; omega
    go_wp2
    go_ret
    exact ⟨rfl, next B0 hb2⟩
  have q1' : ¬ (1024 : Int) < n1 := by have := of_decide_eq_true E1.out; omega
  clear hW1 hW2
  cases nat
  · cases y2
    · have q2' : (64 : Int) < n2 := by have := of_decide_eq_false E2.out; omega
      go_wp2
      go_ret
      exact ⟨rfl, next B0 hb2⟩
    have q2' : ¬ (64 : Int) < n2 := by have := of_decide_eq_true E2.out; omega
    cases y3
    · have q3' : (64 : Int) < n3 := by have := of_decide_eq_false E3.out; omega
      go_wp2
      go_ret
      exact ⟨rfl, next B0 hb2⟩
    have q3' : ¬ (64 : Int) < n3 := by have := of_decide_eq_true E3.out; omega
    have hM' := hM w2 (next B0 hb2)
    clear hM hBd
    go_wp2_with fail
    refine hM'.out.mono ?_
    rintro e w3 ⟨rfl, b3⟩
    go_wp2
    go_ret
    exact ⟨rfl, next B0 (next hb2 b3)⟩
  · have hB' := hBd w2
    clear hBd
    cases x6
    rotate_left
    · go_wp2_with fail
      refine hB'.out.mono ?_
      rintro e w3 ⟨rfl, b3⟩
      go_wp2
      go_ret
      exact ⟨rfl, next B0 (next hb2 b3)⟩
    · go_wp2_with fail
      refine hB'.out.mono ?_
      rintro e w3 ⟨rfl, b3⟩
      have hb3 := next hb2 b3
      obtain ⟨⟨j0, j1, j2, j3⟩, j4, j5, j6, j7, j8⟩ := cells _ (hcell _ hb3)
      cases y2
      · have q2' : (64 : Int) < n2 := by have := of_decide_eq_false E2.out; omega
        go_wp2
        go_ret
        exact ⟨rfl, next B0 hb3⟩
      have q2' : ¬ (64 : Int) < n2 := by have := of_decide_eq_true E2.out; omega
      cases y3
      · have q3' : (64 : Int) < n3 := by have := of_decide_eq_false E3.out; omega
        go_wp2
        go_ret
        exact ⟨rfl, next B0 hb3⟩
      have q3' : ¬ (64 : Int) < n3 := by have := of_decide_eq_true E3.out; omega
      have hM' := hM w3 (next B0 hb3)
      clear hM
      go_wp2_with fail
      refine hM'.out.mono ?_
      rintro e w4 ⟨rfl, b4⟩
      go_wp2
      go_ret
      exact ⟨rfl, next B0 (next hb3 b4)⟩
end Go.Proofs.YthagaldpopnoeaaGreatDoor

/- Right: walked. -/
namespace Go.Proofs.YthagaldpopnoeaaGreatDoor
open Go.RowKit D

theorem fieldsZ_at {l : List FD} {j : Nat} {x : FD} (h : l[j]? = some x) : fieldsZ (l.take j) (l.drop j) = if fieldZ x (l.take j) = 0 then fieldsZ (l.take (j + 1)) (l.drop (j + 1)) else fieldZ x (l.take j) := by
  obtain ⟨hj, e⟩ := List.getElem?_eq_some_iff.1 h
  rw [List.drop_eq_getElem_cons hj, e, List.take_add_one, h]
  rfl
theorem methsZ_at {l : List MD} {j : Nat} {x : MD} (h : l[j]? = some x) : methsZ (l.take j) (l.drop j) = if methZ x (l.take j) = 0 then methsZ (l.take (j + 1)) (l.drop (j + 1)) else methZ x (l.take j) := by
  obtain ⟨hj, e⟩ := List.getElem?_eq_some_iff.1 h
  rw [List.drop_eq_getElem_cons hj, e, List.take_add_one, h]
  rfl
theorem LAt.row {α : Type} {k : Nat} {R : World → List Value → α → Prop} {w : World} {ao : Option Addr} {c : Nat} {l : List α} (h : LAt k R w ao c l) {j : Nat} {x : α} (hx : l[j]? = some x) :
    ∃ b off r, ao = some ⟨b, off, none⟩ ∧ R w r x ∧ ∀ i v, r[i]? = some v → w.cell? ⟨b, off + j * k + i, none⟩ = some v := by
  obtain ⟨_, _, rows, h3, h4⟩ := h
  have hj : j < l.length := (List.getElem?_eq_some_iff.1 hx).1
  obtain ⟨b, off, e, _, hc⟩ := h3 (by omega)
  exact ⟨b, off, rows j, e, h4 j x hx, hc j hj⟩
theorem LAt.lens {α : Type} {k : Nat} {R : World → List Value → α → Prop} {w : World} {ao : Option Addr} {c : Nat} {l : List α} (h : LAt k R w ao c l) : l.length ≤ c ∧ c ≤ 9223372036854775807 := by
  have h1 := h.1; have h2 := h.2.1; unfold maxLen at h2; omega

set_option maxRecDepth 8000 in
set_option maxHeartbeats 4000000 in
theorem right_class (k : KD) (v : Value) (w : World) (h : ClassV w v k) : Calls Tryz.prog 11 #[v] w fun e w' => e = .returned (.int .i64 (rightZ k)) ∧ Below w.heap.size w w' := by
  obtain ⟨o1, c1, o2, c2, o3, c3, rfl, s1, s2, k1, k2, k3⟩ := h
  obtain ⟨nm, sup, pool, fs, ms⟩ := k
  simp only at *
  have B0 := balloc w (.cells #[.string nm, .string sup, .slice o1 pool.length c1, .slice o2 fs.length c2, .slice o3 ms.length c3] 33)
  have hN1 := fun W => D.hidIt (name_any nm W)
  have hN2 := fun W => D.hidIt (name_any sup W)
  have hC := D.hidIt (allConsts o1 c1 pool _ (k1.below B0 (fun _ _ h => h)))
  have hF : ∀ (W : World) (hW : Below w.heap.size w W) (x : FD) (j : Nat), x.ds.size ≤ 9223372036854775807 → j ≤ fs.length → Hid (Calls Tryz.prog 38 #[.agg #[.string x.nm, .string x.ds, .bool x.st], .slice o2 j c2] W fun e w' => e = .returned (.int .i64 (fieldZ x (fs.take j))) ∧ Below W.heap.size W w') := by
    intro W hW x j hx hj
    have := field_right x o2 c2 (fs.take j) W hx ((k2.take j).below hW (fun _ _ h => h))
    rw [List.length_take, Nat.min_eq_left hj] at this
    exact this
  have hM : ∀ (W : World) (hW : Below w.heap.size w W) (x : MD) (p1 : Option Addr) (q1 : Nat) (p2 : Option Addr) (q2 : Nat) (p3 : Option Addr) (q3 : Nat) (j : Nat), x.ds.size ≤ 9223372036854775807 → LAt 4 HandR W p2 q2 x.hs → LAt 3 FrameR W p3 q3 x.rs → j ≤ ms.length → Hid (Calls Tryz.prog 39 #[.agg #[.string x.nm, .string x.ds, .bool x.st, .bool x.nat, .int .i64 x.stk, .int .i64 x.loc, .slice p1 x.code.length q1, .slice p2 x.hs.length q2, .slice p3 x.rs.length q3], .slice o3 j c3] W fun e w' => e = .returned (.int .i64 (methZ x (ms.take j))) ∧ Below W.heap.size W w') := by
    intro W hW x p1 q1 p2 q2 p3 q3 j hx hh hr hj
    have := meth_right x p1 q1 p2 q2 p3 q3 o3 c3 (ms.take j) W hx hh hr ((k3.take j).below hW (fun _ _ h => h.below hW))
    rw [List.length_take, Nat.min_eq_left hj] at this
    exact this
  have rowF : ∀ (W : World) (hW : Below w.heap.size w W) (j : Nat) (x : FD), fs[j]? = some x → ∃ b off, o2 = some ⟨b, off, none⟩ ∧ x.ds.size ≤ 9223372036854775807 ∧ W.cell? ⟨b, off + j * 3, none⟩ = some (.string x.nm) ∧ W.cell? ⟨b, off + j * 3 + 1, none⟩ = some (.string x.ds) ∧ W.cell? ⟨b, off + j * 3 + 2, none⟩ = some (.bool x.st) := by
    intro W hW j x hx
    obtain ⟨b, off, r, e, ⟨rfl, _, hd⟩, hc⟩ := (k2.below hW (fun _ _ h => h)).row hx
    exact ⟨b, off, e, hd, hc 0 _ rfl, hc 1 _ rfl, hc 2 _ rfl⟩
  have rowM : ∀ (W : World) (hW : Below w.heap.size w W) (j : Nat) (x : MD), ms[j]? = some x → ∃ b off p1 q1 p2 q2 p3 q3, o3 = some ⟨b, off, none⟩ ∧ x.ds.size ≤ 9223372036854775807 ∧ LAt 4 HandR W p2 q2 x.hs ∧ LAt 3 FrameR W p3 q3 x.rs ∧
      (W.cell? ⟨b, off + j * 9, none⟩ = some (.string x.nm) ∧ W.cell? ⟨b, off + j * 9 + 1, none⟩ = some (.string x.ds) ∧ W.cell? ⟨b, off + j * 9 + 2, none⟩ = some (.bool x.st) ∧ W.cell? ⟨b, off + j * 9 + 3, none⟩ = some (.bool x.nat)) ∧
      (W.cell? ⟨b, off + j * 9 + 4, none⟩ = some (.int .i64 x.stk) ∧ W.cell? ⟨b, off + j * 9 + 5, none⟩ = some (.int .i64 x.loc) ∧ W.cell? ⟨b, off + j * 9 + 6, none⟩ = some (.slice p1 x.code.length q1) ∧ W.cell? ⟨b, off + j * 9 + 7, none⟩ = some (.slice p2 x.hs.length q2) ∧ W.cell? ⟨b, off + j * 9 + 8, none⟩ = some (.slice p3 x.rs.length q3)) := by
    intro W hW j x hx
    obtain ⟨b, off, r, e, ⟨p1, q1, p2, q2, p3, q3, rfl, _, hd, _, hh, hr⟩, hc⟩ := (k3.below hW (fun _ _ h => h.below hW)).row hx
    exact ⟨b, off, p1, q1, p2, q2, p3, q3, e, hd, hh, hr, ⟨hc 0 _ rfl, hc 1 _ rfl, hc 2 _ rfl, hc 3 _ rfl⟩, hc 4 _ rfl, hc 5 _ rfl, hc 6 _ rfl, hc 7 _ rfl, hc 8 _ rfl⟩
  have ln2 := k2.lens
  have ln3 := k3.lens
  have FE := D.hidIt (show fieldsZ [] fs = fieldsZ (fs.take 0) (fs.drop 0) by simp)
  have ME := D.hidIt (show methsZ [] ms = methsZ (ms.take 0) (ms.drop 0) by simp)
  unfold rightZ bsB
  simp only
  generalize fieldsZ [] fs = ZF at *
  generalize methsZ [] ms = ZM at *
  generalize hR : (if ZF = 0 then ZM else ZF) = R at *
  have HR := D.hidIt hR
  clear hR
  generalize nameB nm.data.toList = x1 at *
  generalize nameB sup.data.toList = x2 at *
  generalize pool.all rightB = x3 at *
  clear k1 k2 k3
  generalize pool.length = n1 at *
  have GF := D.hidIt (Eq.refl fs.length)
  have GM := D.hidIt (Eq.refl ms.length)
  revert GF GM
  generalize hn2 : fs.length = n2 at *
  generalize hn3 : ms.length = n3 at *
  intro GM GF
  have N2 := D.hidIt hn2
  have N3 := D.hidIt hn3
  clear hn2 hn3 GM GF
  obtain ⟨lf1, lf2⟩ := ln2
  obtain ⟨lm1, lm2⟩ := ln3
  have hcell : ∀ W, Below (w.alloc (.cells #[.string nm, .string sup, .slice o1 n1 c1, .slice o2 n2 c2, .slice o3 n3 c3] 33)).heap.size (w.alloc (.cells #[.string nm, .string sup, .slice o1 n1 c1, .slice o2 n2 c2, .slice o3 n3 c3] 33)) W → W.heap[w.heap.size]? = some (.cells #[.string nm, .string sup, .slice o1 n1 c1, .slice o2 n2 c2, .slice o3 n3 c3] 33 (0, 0)) := fun W hW => (hW.block _ (by simp)).trans (heap_alloc_new _ _)
  have cells : ∀ W : World, W.heap[w.heap.size]? = some (.cells #[.string nm, .string sup, .slice o1 n1 c1, .slice o2 n2 c2, .slice o3 n3 c3] 33 (0, 0)) → (W.cell? ⟨w.heap.size, 3, none⟩ = some (.slice o2 n2 c2) ∧ W.cell? ⟨w.heap.size, 4, none⟩ = some (.slice o3 n3 c3)) := by
    intro W hW
    refine ⟨?_, ?_⟩ <;> (rw [cell_of_row _ _ _ _ 33 (0, 0) hW]; rfl)
  generalize e1 : decide (n1 ≤ 256) = y1
  generalize e2 : decide (n2 ≤ 16) = y2
  generalize e3 : decide (n3 ≤ 16) = y3
  generalize e0 : emptyB sup = y0
  have E0 := D.hidIt e0
  have E1 := D.hidIt e1
  have E2 := D.hidIt e2
  have E3 := D.hidIt e3
  clear e0 e1 e2 e3
  unfold fnv at hC
  have HCELL := D.hidIt hcell
  have CELLS := D.hidIt cells
  have HF := D.hidIt hF
  have HM := D.hidIt hM
  have ROWF := D.hidIt rowF
  have ROWM := D.hidIt rowM
  clear hcell cells hF hM rowF rowM
  unfold emptyB at E0
  go_enter Tryz.func11, Tryz.ntmps11
  go_wp2_with fail
  refine (hN1 _).out.mono ?_
  rintro e w' ⟨rfl, hww⟩; cases hww
  cases x1
  · go_wp2
    go_ret
    exact ⟨rfl, B0⟩
  cases y0
  case' false =>
    have q0 := E0.out
    go_wp2_with fail
    refine (hN2 _).out.mono ?_
    rintro e w' ⟨rfl, hww⟩; cases hww
    cases x2
    case false =>
      go_wp2
      go_ret
      exact ⟨rfl, B0⟩
  case' true =>
    have q0 := E0.out
  all_goals
    clear hN1 hN2
    cases y1
    · have q1' : (256 : Int) < n1 := by have := of_decide_eq_false E1.out; omega
      go_wp2
      go_ret
      exact ⟨rfl, B0⟩
    have q1' : ¬ (256 : Int) < n1 := by have := of_decide_eq_true E1.out; omega
    cases y2
    · have q2' : (16 : Int) < n2 := by have := of_decide_eq_false E2.out; omega
      go_wp2
      go_ret
      exact ⟨rfl, B0⟩
    have q2' : ¬ (16 : Int) < n2 := by have := of_decide_eq_true E2.out; omega
    cases y3
    · have q3' : (16 : Int) < n3 := by have := of_decide_eq_false E3.out; omega
      go_wp2
      go_ret
      exact ⟨rfl, B0⟩
    have q3' : ¬ (16 : Int) < n3 := by have := of_decide_eq_true E3.out; omega
    go_wp2_with fail
    refine hC.out.mono ?_
    rintro e w1 ⟨rfl, b1⟩
    clear hC
    cases x3
    · go_wp2
      go_ret
      exact ⟨rfl, next B0 b1⟩
    obtain ⟨d3, d4⟩ := CELLS.out _ (HCELL.out _ b1)
    go_wp2
    go_loopw [50] (fun i wr => ∃ kk : Nat, i = .int .i64 (kk : Int) ∧ kk ≤ n2 ∧ Hid (ZF = fieldsZ (fs.take kk) (fs.drop kk)) ∧ Hid (Below w1.heap.size w1 wr)) (fun i _ => n2 - (intOf i).toNat)
    case atStart => exact ⟨0, rfl, Nat.zero_le _, FE, Below.refl _ _⟩
    case round =>
      obtain ⟨kk, rfl, hk, HZ, hb⟩ := hrel
      by_cases hlt : kk < n2
      · have hlt' : (kk : Int) < (n2 : Int) := by omega
        have hbw := next b1 hb.out
        obtain ⟨g3, g4⟩ := CELLS.out _ (HCELL.out _ hbw)
        obtain ⟨x, hx⟩ : ∃ x, fs[kk]? = some x := ⟨_, List.getElem?_eq_getElem (by rw [N2.out]; exact hlt)⟩
        have HX := D.hidIt hx
        clear hx
        obtain ⟨b, off, rfl, hds, r0, r1, r2⟩ := ROWF.out wr (next B0 hbw) kk _ HX.out
        have HFx := fun W hW => HF.out W hW x kk hds hk
        have HZ' := D.hidIt (HZ.out.trans (fieldsZ_at HX.out))
        clear HZ
        obtain ⟨xn, xd, xs⟩ := x
        simp only at *
        go_wp2_with fail
        have hW0 : Below wr.heap.size wr (wr.alloc (.cells #[.string xn, .string xd, .bool xs] 63)) := balloc _ _
        have m0 : (wr.alloc (.cells #[.string xn, .string xd, .bool xs] 63)).cell? ⟨wr.heap.size, 0, none⟩ = some (.string xn) := by simp
        have m1 : (wr.alloc (.cells #[.string xn, .string xd, .bool xs] 63)).cell? ⟨wr.heap.size, 1, none⟩ = some (.string xd) := by simp
        have m2 : (wr.alloc (.cells #[.string xn, .string xd, .bool xs] 63)).cell? ⟨wr.heap.size, 2, none⟩ = some (.bool xs) := by simp
        have m3 := cell_later hW0 g3
        have HW0 := D.hidIt (next hb.out hW0)
        clear g3 g4 r0 r1 r2 hW0
        generalize wr.alloc (.cells #[.string xn, .string xd, .bool xs] 63) = W0 at *
        have hkc : (kk : Int) ≤ (c2 : Int) := by omega
        have HFd := fun q => HFx (W0.drewN q) (below_drewN (next B0 (next b1 HW0.out)) q)
        clear HFx
        generalize fieldZ ⟨xn, xd, xs⟩ (fs.take kk) = Z at *
        go_region_with (go_at_call 38; refine (HFd _).out.mono ?_; rintro e w2 ⟨rfl, b2⟩)
        all_goals
          have HB2 := D.hidIt (next HW0.out (next (below_drewN (Below.refl _ W0) _) b2))
          clear b2 HFd m0 m1 m2 m3
          cases hz : Z != 0
          · have hz' : Z = 0 := by simpa using hz
            go_wp2
            refine ⟨⟨kk + 1, by go_num, by omega, ?_, HB2.out⟩, by simp [intOf]; omega⟩
            have := HZ'.out
            rw [if_pos hz'] at this
            exact this
          · have hz' : ¬ Z = 0 := by simpa using hz
            go_wp2
            go_ret
            have := HZ'.out
            rw [if_neg hz'] at this
            exact ⟨by rw [← HR.out, this, if_neg hz']; rfl, next B0 (next b1 HB2.out)⟩
      · have hlt' : ¬ (kk : Int) < (n2 : Int) := by omega
        have hbw := next b1 hb.out
        obtain ⟨g3, g4⟩ := CELLS.out _ (HCELL.out _ hbw)
        have F0 : Hid (ZF = 0) := by
          show _ = _
          have := HZ.out
          rw [List.drop_eq_nil_of_le (by rw [N2.out]; omega)] at this
          exact this
        clear HZ
        have HB1 := D.hidIt hbw
        clear hb b1 d3 d4 hbw
        obtain ⟨wv, rfl⟩ : ∃ wv, wv = wr := ⟨_, rfl⟩
        clear HF ROWF
        go_wp2
        go_loopw [68] (fun i wr => ∃ kk : Nat, i = .int .i64 (kk : Int) ∧ kk ≤ n3 ∧ Hid (ZM = methsZ (ms.take kk) (ms.drop kk)) ∧ Hid (Below wv.heap.size wv wr)) (fun i _ => n3 - (intOf i).toNat)
        case atStart => exact ⟨0, rfl, Nat.zero_le _, ME, Below.refl _ _⟩
        case round =>
          obtain ⟨jj, rfl, hj, HZ, hb⟩ := hrel
          by_cases hjt : jj < n3
          · have hjt' : (jj : Int) < (n3 : Int) := by omega
            have hbw := next HB1.out hb.out
            obtain ⟨g3, g4⟩ := CELLS.out _ (HCELL.out _ hbw)
            obtain ⟨x, hx⟩ : ∃ x, ms[jj]? = some x := ⟨_, List.getElem?_eq_getElem (by rw [N3.out]; exact hjt)⟩
            have HX := D.hidIt hx
            clear hx
            obtain ⟨b, off, p1, q1, p2, q2, p3, q3, rfl, hds, hh, hr, ⟨r0, r1, r2, r3⟩, r4, r5, r6, r7, r8⟩ := ROWM.out wr (next B0 hbw) jj _ HX.out
            have HFx := fun W hW (hWx : Below wr.heap.size wr W) => HM.out W hW x p1 q1 p2 q2 p3 q3 jj hds (hh.below hWx (fun _ _ h => h)) (hr.below hWx (fun _ _ h => h.below hWx)) hj
            have HZ' := D.hidIt (HZ.out.trans (methsZ_at HX.out))
            clear HZ hh hr
            generalize methZ x (ms.take jj) = Z at *
            generalize x.code.length = l1 at *
            generalize x.hs.length = l2 at *
            generalize x.rs.length = l3 at *
            obtain ⟨xn, xd, xs, xa, xk, xl, xc, xh, xr⟩ := x
            simp only at *
            clear g3
            go_wp2_with fail
            have hW0 : Below wr.heap.size wr (wr.alloc (.cells #[.string xn, .string xd, .bool xs, .bool xa, .int .i64 xk, .int .i64 xl, .slice p1 l1 q1, .slice p2 l2 q2, .slice p3 l3 q3] 26)) := balloc _ _
            have m0 : (wr.alloc (.cells #[.string xn, .string xd, .bool xs, .bool xa, .int .i64 xk, .int .i64 xl, .slice p1 l1 q1, .slice p2 l2 q2, .slice p3 l3 q3] 26)).cell? ⟨wr.heap.size, 0, none⟩ = some (.string xn) := by simp
            have m1 : (wr.alloc (.cells #[.string xn, .string xd, .bool xs, .bool xa, .int .i64 xk, .int .i64 xl, .slice p1 l1 q1, .slice p2 l2 q2, .slice p3 l3 q3] 26)).cell? ⟨wr.heap.size, 1, none⟩ = some (.string xd) := by simp
            have m2 : (wr.alloc (.cells #[.string xn, .string xd, .bool xs, .bool xa, .int .i64 xk, .int .i64 xl, .slice p1 l1 q1, .slice p2 l2 q2, .slice p3 l3 q3] 26)).cell? ⟨wr.heap.size, 2, none⟩ = some (.bool xs) := by simp
            have m3 : (wr.alloc (.cells #[.string xn, .string xd, .bool xs, .bool xa, .int .i64 xk, .int .i64 xl, .slice p1 l1 q1, .slice p2 l2 q2, .slice p3 l3 q3] 26)).cell? ⟨wr.heap.size, 3, none⟩ = some (.bool xa) := by simp
            have m4 : (wr.alloc (.cells #[.string xn, .string xd, .bool xs, .bool xa, .int .i64 xk, .int .i64 xl, .slice p1 l1 q1, .slice p2 l2 q2, .slice p3 l3 q3] 26)).cell? ⟨wr.heap.size, 4, none⟩ = some (.int .i64 xk) := by simp
            have m5 : (wr.alloc (.cells #[.string xn, .string xd, .bool xs, .bool xa, .int .i64 xk, .int .i64 xl, .slice p1 l1 q1, .slice p2 l2 q2, .slice p3 l3 q3] 26)).cell? ⟨wr.heap.size, 5, none⟩ = some (.int .i64 xl) := by simp
            have m6 : (wr.alloc (.cells #[.string xn, .string xd, .bool xs, .bool xa, .int .i64 xk, .int .i64 xl, .slice p1 l1 q1, .slice p2 l2 q2, .slice p3 l3 q3] 26)).cell? ⟨wr.heap.size, 6, none⟩ = some (.slice p1 l1 q1) := by simp
            have m7 : (wr.alloc (.cells #[.string xn, .string xd, .bool xs, .bool xa, .int .i64 xk, .int .i64 xl, .slice p1 l1 q1, .slice p2 l2 q2, .slice p3 l3 q3] 26)).cell? ⟨wr.heap.size, 7, none⟩ = some (.slice p2 l2 q2) := by simp
            have m8 : (wr.alloc (.cells #[.string xn, .string xd, .bool xs, .bool xa, .int .i64 xk, .int .i64 xl, .slice p1 l1 q1, .slice p2 l2 q2, .slice p3 l3 q3] 26)).cell? ⟨wr.heap.size, 8, none⟩ = some (.slice p3 l3 q3) := by simp
            have mm := cell_later hW0 g4
            have HW0 := D.hidIt hW0
            clear g4 r0 r1 r2 r3 r4 r5 r6 r7 r8 hW0
            generalize wr.alloc (.cells #[.string xn, .string xd, .bool xs, .bool xa, .int .i64 xk, .int .i64 xl, .slice p1 l1 q1, .slice p2 l2 q2, .slice p3 l3 q3] 26) = W0 at *
            have hkc : (jj : Int) ≤ (c3 : Int) := by omega
            have HFd := fun q => HFx (W0.drewN q) (below_drewN (next B0 (next hbw HW0.out)) q) (below_drewN HW0.out q)
            clear HFx
            go_region_with (go_at_call 39; refine (HFd _).out.mono ?_; rintro e w2 ⟨rfl, b2⟩)
            all_goals
              have HB2 := D.hidIt (next hb.out (next HW0.out (next (below_drewN (Below.refl _ W0) _) b2)))
              clear b2 HFd m0 m1 m2 m3 m4 m5 m6 m7 m8 mm
              cases hz : Z != 0
              · have hz' : Z = 0 := by simpa using hz
                go_wp2
                refine ⟨⟨jj + 1, by go_num, by omega, ?_, HB2.out⟩, by simp [intOf]; omega⟩
                have := HZ'.out
                rw [if_pos hz'] at this
                exact this
              · have hz' : ¬ Z = 0 := by simpa using hz
                go_wp2
                go_ret
                have := HZ'.out
                rw [if_neg hz'] at this
                exact ⟨by rw [← HR.out, F0.out, this]; rfl, next B0 (next HB1.out HB2.out)⟩
          · have hjt' : ¬ (jj : Int) < (n3 : Int) := by omega
            have M0 : ZM = 0 := by
              have := HZ.out
              rw [List.drop_eq_nil_of_le (by rw [N3.out]; omega)] at this
              exact this
            have HM0 := D.hidIt M0
            clear M0 HZ
            go_wp2
            go_ret
            exact ⟨by rw [← HR.out, F0.out, HM0.out]; rfl, next B0 (next HB1.out hb.out)⟩
end Go.Proofs.YthagaldpopnoeaaGreatDoor
