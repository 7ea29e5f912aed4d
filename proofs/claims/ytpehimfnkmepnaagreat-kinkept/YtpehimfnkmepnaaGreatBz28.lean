import Derived.Test.YtpehimfnkmepnaaGreatBz27
set_option maxRecDepth 8000
set_option maxHeartbeats 40000000
namespace Go.Proofs.YtpehimfnkmepnaaGreat.Q
open Go.RowKit
theorem zA9 (w : World) (o : Obj) : Below w.heap.size w (w.alloc o) := (Below.refl _ _).alloc (Nat.le_refl _) o
theorem next {w w1 w2 : World} (h : Below w.heap.size w w1) (k : Below w1.heap.size w1 w2) : Below w.heap.size w w2 := h.trans (k.mono h.size)
def zAk (k : Nat) (w : World) (ao : Option Addr) (n : Nat) (rows : Nat → List Value) : Prop :=
 0 < n → ∃ b off, ao = some ⟨b, off, none⟩ ∧ b < w.heap.size ∧ ∀ j, j < n → ∀ i v, (rows j)[i]? = some v → w.cell? ⟨b, off + j * k + i, none⟩ = some v
theorem zAk.below {k n : Nat} {w w' : World} {ao : Option Addr} {rows : Nat → List Value} (h : zAk k w ao n rows) (hb : Below w.heap.size w w') : zAk k w' ao n rows := by
 intro hn
 obtain ⟨b, off, e, hlt, hc⟩ := h hn
 exact ⟨b, off, e, Nat.lt_of_lt_of_le hlt hb.size, fun j hj i v hv => by rw [hb.cell (p := ⟨b, off + j * k + i, none⟩) hlt]; exact hc j hj i v hv⟩
theorem zAk.take {k n m : Nat} {w : World} {ao : Option Addr} {rows : Nat → List Value} (h : zAk k w ao n rows) (hm : m ≤ n) : zAk k w ao m rows := by
 intro hn
 obtain ⟨b, off, e, hlt, hc⟩ := h (by omega)
 exact ⟨b, off, e, hlt, fun j hj => hc j (by omega)⟩
def Asks (g : Nat) (v : Value) (b : Bool) (w : World) : Prop :=
 ∀ W : World, Below w.heap.size w W → Calls Tryz.prog g #[v] W fun e w' => e = .returned (.bool b) ∧ Below W.heap.size W w'
theorem Asks.below {g : Nat} {v : Value} {b : Bool} {w w' : World} (h : Asks g v b w) (hb : Below w.heap.size w w') : Asks g v b w' :=
 fun W hW => h W (next hb hW)
def allN (n : Nat) (q : Nat → Bool) : Bool := !(anyN n fun j => !(q j))
theorem zFn {α : Type} (l : List α) (q : Nat → Bool) (f : α → Bool) (h : ∀ i x, l[i]? = some x → q i = f x) : allN l.length q = l.all f := by
 unfold allN
 rw [zEi l _ (fun x => !(f x)) (fun i x hx => by rw [h i x hx]), List.all_eq_not_any_not]
def fnv (g : Nat) : Value := .func (.func g) #[] #[]
def zR0 (r : List Value) : Prop := ∃ (a b : Int) (s t u : ByteArray) , r = [.int .i64 a, .int .i32 b, .string s, .string t, .string u]
theorem cloC (g : Nat) (eg : ∀ args w, (callFunc g args).run Tryz.prog w = .ok (.enter g args) w) (r : List Value) (sh : zR0 r) (b : Bool) (B : Nat) (w : World) (hc : w.cell? ⟨B, 0, none⟩ = some (fnv g)) (h : Asks g (.agg r.toArray) b w) :
 Calls Tryz.prog 171 #[.agg r.toArray, .pointer (some ⟨B, 0, none⟩)] w fun e w' => e = .returned (.bool (!b)) ∧ Below w.heap.size w w' := by
 obtain ⟨a, b, s, t, u, rfl⟩ := sh
 have hB : B < w.heap.size := World.block_lt_of_cell? _ _ hc
 have hca := fun o => cell_later (zA9 w o) hc
 have hcall := fun o => h (w.alloc o) (zA9 w o)
 unfold fnv at hca
 simp only [List.toArray] at hcall ⊢
 go_enter Tryz.func171, Tryz.ntmps171
 go_wp2_with (go_at_fn g; refine (hcall _).mono ?_; rintro e w' ⟨rfl, hb'⟩)
 go_ret
 exact ⟨rfl, next (zA9 w _) hb'⟩
theorem allC (g : Nat) (eg : ∀ args w, (callFunc g args).run Tryz.prog w = .ok (.enter g args) w) (rows : Nat → List Value) (q : Nat → Bool) (ao : Option Addr) (n c : Nat) (w : World) (sh : ∀ j, j < n → zR0 (rows j)) (hbig : n ≤ 9223372036854775807)
 (hr : zAk 5 w ao n rows) (hq : ∀ j, j < n → Asks g (.agg (rows j).toArray) (q j) w) :
 Calls Tryz.prog 148 #[.slice ao n c, fnv g] w fun e w' => e = .returned (.bool (allN n q)) ∧ Below w.heap.size w w' := by
 have hH : ∀ o, (w.alloc o).cell? ⟨w.heap.size, 0, none⟩ = some (fnv g) → Calls Tryz.prog 170 #[.slice ao n c, .func (.func 171) #[] #[.pointer (some ⟨w.heap.size, 0, none⟩)]] (w.alloc o) fun e w' => e = .returned (.bool (anyN n fun j => !(q j))) ∧ Below (w.alloc o).heap.size (w.alloc o) w' := by
  intro o ho
  refine hasQ Tryz.hasC 5 Tryz.isAgg112 Tryz.sizeOf112 rows n (fun j hj => by obtain ⟨_, _, _, _, _, e⟩ := sh j hj; rw [e]; rfl) _ 171 #[.pointer (some ⟨w.heap.size, 0, none⟩)] (enters_of Tryz.func171 (by kernel_rfl) rfl) ao c _ (fun W j hj hW => ?_) hbig (hr.below (zA9 w o))
  refine (cloC g eg (rows j) (sh j hj) (q j) w.heap.size W (cell_later hW ho) ((hq j hj).below (next (zA9 w o) hW))).mono ?_
  rintro e w' ⟨rfl, hb⟩
  exact ⟨rfl, next hW hb⟩
 unfold allN
 generalize (anyN n fun j => !(q j)) = X at hH ⊢
 unfold fnv at hH ⊢
 go_enter Tryz.func148, Tryz.ntmps148
 go_wp2_with (go_at_call 170; refine (hH _ (by simp)).mono ?_; rintro e w' ⟨rfl, hb'⟩)
 go_ret
 exact ⟨rfl, next (zA9 w _) hb'⟩
def zRe (r : List Value) : Prop := ∃ (a b c : Int) (s : ByteArray) , r = [.int .i64 a, .int .i64 b, .int .i64 c, .string s]
theorem cloH (g : Nat) (eg : ∀ args w, (callFunc g args).run Tryz.prog w = .ok (.enter g args) w) (r : List Value) (sh : zRe r) (b : Bool) (B : Nat) (w : World) (hc : w.cell? ⟨B, 0, none⟩ = some (fnv g)) (h : Asks g (.agg r.toArray) b w) :
 Calls Tryz.prog 214 #[.agg r.toArray, .pointer (some ⟨B, 0, none⟩)] w fun e w' => e = .returned (.bool (!b)) ∧ Below w.heap.size w w' := by
 obtain ⟨a, b, c, s, rfl⟩ := sh
 have hB : B < w.heap.size := World.block_lt_of_cell? _ _ hc
 have hca := fun o => cell_later (zA9 w o) hc
 have hcall := fun o => h (w.alloc o) (zA9 w o)
 unfold fnv at hca
 simp only [List.toArray] at hcall ⊢
 go_enter Tryz.func214, Tryz.ntmps214
 go_wp2_with (go_at_fn g; refine (hcall _).mono ?_; rintro e w' ⟨rfl, hb'⟩)
 go_ret
 exact ⟨rfl, next (zA9 w _) hb'⟩
theorem allH (g : Nat) (eg : ∀ args w, (callFunc g args).run Tryz.prog w = .ok (.enter g args) w) (rows : Nat → List Value) (q : Nat → Bool) (ao : Option Addr) (n c : Nat) (w : World) (sh : ∀ j, j < n → zRe (rows j)) (hbig : n ≤ 9223372036854775807)
 (hr : zAk 4 w ao n rows) (hq : ∀ j, j < n → Asks g (.agg (rows j).toArray) (q j) w) :
 Calls Tryz.prog 201 #[.slice ao n c, fnv g] w fun e w' => e = .returned (.bool (allN n q)) ∧ Below w.heap.size w w' := by
 have hH : ∀ o, (w.alloc o).cell? ⟨w.heap.size, 0, none⟩ = some (fnv g) → Calls Tryz.prog 213 #[.slice ao n c, .func (.func 214) #[] #[.pointer (some ⟨w.heap.size, 0, none⟩)]] (w.alloc o) fun e w' => e = .returned (.bool (anyN n fun j => !(q j))) ∧ Below (w.alloc o).heap.size (w.alloc o) w' := by
  intro o ho
  refine hasQ Tryz.hasH 4 Tryz.isAgg154 Tryz.sizeOf154 rows n (fun j hj => by obtain ⟨_, _, _, _, e⟩ := sh j hj; rw [e]; rfl) _ 214 #[.pointer (some ⟨w.heap.size, 0, none⟩)] (enters_of Tryz.func214 (by kernel_rfl) rfl) ao c _ (fun W j hj hW => ?_) hbig (hr.below (zA9 w o))
  refine (cloH g eg (rows j) (sh j hj) (q j) w.heap.size W (cell_later hW ho) ((hq j hj).below (next (zA9 w o) hW))).mono ?_
  rintro e w' ⟨rfl, hb⟩
  exact ⟨rfl, next hW hb⟩
 unfold allN
 generalize (anyN n fun j => !(q j)) = X at hH ⊢
 unfold fnv at hH ⊢
 go_enter Tryz.func201, Tryz.ntmps201
 go_wp2_with (go_at_call 213; refine (hH _ (by simp)).mono ?_; rintro e w' ⟨rfl, hb'⟩)
 go_ret
 exact ⟨rfl, next (zA9 w _) hb'⟩
def zR2 (r : List Value) : Prop := ∃ (a : Int) (o1 : Option Addr) (n1 c1 : Nat) (o2 : Option Addr) (n2 c2 : Nat) , r = [.int .i64 a, .slice o1 n1 c1, .slice o2 n2 c2]
theorem cloR (g : Nat) (eg : ∀ args w, (callFunc g args).run Tryz.prog w = .ok (.enter g args) w) (r : List Value) (sh : zR2 r) (b : Bool) (B : Nat) (w : World) (hc : w.cell? ⟨B, 0, none⟩ = some (fnv g)) (h : Asks g (.agg r.toArray) b w) :
 Calls Tryz.prog 216 #[.agg r.toArray, .pointer (some ⟨B, 0, none⟩)] w fun e w' => e = .returned (.bool (!b)) ∧ Below w.heap.size w w' := by
 obtain ⟨a, o1, n1, c1, o2, n2, c2, rfl⟩ := sh
 have hB : B < w.heap.size := World.block_lt_of_cell? _ _ hc
 have hca := fun o => cell_later (zA9 w o) hc
 have hcall := fun o => h (w.alloc o) (zA9 w o)
 unfold fnv at hca
 simp only [List.toArray] at hcall ⊢
 go_enter Tryz.func216, Tryz.ntmps216
 go_wp2_with (go_at_fn g; refine (hcall _).mono ?_; rintro e w' ⟨rfl, hb'⟩)
 go_ret
 exact ⟨rfl, next (zA9 w _) hb'⟩
theorem allR (g : Nat) (eg : ∀ args w, (callFunc g args).run Tryz.prog w = .ok (.enter g args) w) (rows : Nat → List Value) (q : Nat → Bool) (ao : Option Addr) (n c : Nat) (w : World) (sh : ∀ j, j < n → zR2 (rows j)) (hbig : n ≤ 9223372036854775807)
 (hr : zAk 3 w ao n rows) (hq : ∀ j, j < n → Asks g (.agg (rows j).toArray) (q j) w) :
 Calls Tryz.prog 203 #[.slice ao n c, fnv g] w fun e w' => e = .returned (.bool (allN n q)) ∧ Below w.heap.size w w' := by
 have hH : ∀ o, (w.alloc o).cell? ⟨w.heap.size, 0, none⟩ = some (fnv g) → Calls Tryz.prog 215 #[.slice ao n c, .func (.func 216) #[] #[.pointer (some ⟨w.heap.size, 0, none⟩)]] (w.alloc o) fun e w' => e = .returned (.bool (anyN n fun j => !(q j))) ∧ Below (w.alloc o).heap.size (w.alloc o) w' := by
  intro o ho
  refine hasQ Tryz.hasR 3 Tryz.isAgg67 Tryz.sizeOf67 rows n (fun j hj => by obtain ⟨_, _, _, _, _, _, _, e⟩ := sh j hj; rw [e]; rfl) _ 216 #[.pointer (some ⟨w.heap.size, 0, none⟩)] (enters_of Tryz.func216 (by kernel_rfl) rfl) ao c _ (fun W j hj hW => ?_) hbig (hr.below (zA9 w o))
  refine (cloR g eg (rows j) (sh j hj) (q j) w.heap.size W (cell_later hW ho) ((hq j hj).below (next (zA9 w o) hW))).mono ?_
  rintro e w' ⟨rfl, hb⟩
  exact ⟨rfl, next hW hb⟩
 unfold allN
 generalize (anyN n fun j => !(q j)) = X at hH ⊢
 unfold fnv at hH ⊢
 go_enter Tryz.func203, Tryz.ntmps203
 go_wp2_with (go_at_call 215; refine (hH _ (by simp)).mono ?_; rintro e w' ⟨rfl, hb'⟩)
 go_ret
 exact ⟨rfl, next (zA9 w _) hb'⟩
theorem cloS (g : Nat) (eg : ∀ args w, (callFunc g args).run Tryz.prog w = .ok (.enter g args) w) (s : ByteArray) (b : Bool) (B : Nat) (w : World) (hc : w.cell? ⟨B, 0, none⟩ = some (fnv g)) (h : Asks g (.string s) b w) :
 Calls Tryz.prog 237 #[.string s, .pointer (some ⟨B, 0, none⟩)] w fun e w' => e = .returned (.bool (!b)) ∧ Below w.heap.size w w' := by
 have hcall := h w (Below.refl _ _)
 unfold fnv at hc
 go_enter Tryz.func237, Tryz.ntmps237
 go_wp2_with (go_at_fn g; refine hcall.mono ?_; rintro e w' ⟨rfl, hb'⟩)
 go_ret
 exact ⟨rfl, hb'⟩
theorem allS (g : Nat) (eg : ∀ args w, (callFunc g args).run Tryz.prog w = .ok (.enter g args) w) (tx : Nat → ByteArray) (q : Nat → Bool) (ao : Option Addr) (n c : Nat) (w : World) (hbig : n ≤ 9223372036854775807)
 (hr : zAk 1 w ao n (fun j => [.string (tx j)])) (hq : ∀ j, j < n → Asks g (.string (tx j)) (q j) w) :
 Calls Tryz.prog 217 #[.slice ao n c, fnv g] w fun e w' => e = .returned (.bool (allN n q)) ∧ Below w.heap.size w w' := by
 have hH : ∀ o, (w.alloc o).cell? ⟨w.heap.size, 0, none⟩ = some (fnv g) → Calls Tryz.prog 91 #[.slice ao n c, .func (.func 237) #[] #[.pointer (some ⟨w.heap.size, 0, none⟩)]] (w.alloc o) fun e w' => e = .returned (.bool (anyN n fun j => !(q j))) ∧ Below (w.alloc o).heap.size (w.alloc o) w' := by
  intro o ho
  refine hasE Tryz.hasS (fun j => .string (tx j)) _ 237 #[.pointer (some ⟨w.heap.size, 0, none⟩)] (enters_of Tryz.func237 (by kernel_rfl) rfl) ao n c _ (fun W j hj hW => ?_) hbig ?_
  · refine (cloS g eg (tx j) (q j) w.heap.size W (cell_later hW ho) ((hq j hj).below (next (zA9 w o) hW))).mono ?_
    rintro e w' ⟨rfl, hb⟩
    exact ⟨rfl, next hW hb⟩
  · intro hn
    obtain ⟨b, off, e, hb, hc⟩ := (hr.below (zA9 w o)) hn
    exact ⟨b, off, e, hb, fun j hj => by have := hc j hj 0 _ rfl; simpa using this⟩
 unfold allN
 generalize (anyN n fun j => !(q j)) = X at hH ⊢
 unfold fnv at hH ⊢
 go_enter Tryz.func217, Tryz.ntmps217
 go_wp2_with (go_at_call 91; refine (hH _ (by simp)).mono ?_; rintro e w' ⟨rfl, hb'⟩)
 go_ret
 exact ⟨rfl, next (zA9 w _) hb'⟩
end Go.Proofs.YtpehimfnkmepnaaGreat.Q
namespace Go.Proofs.YtpehimfnkmepnaaGreat.Q
open Go.RowKit D
structure FD where
 nm : ByteArray
 ds : ByteArray
 st : Bool
structure HD where
 fr : Int
 tO : Int
 aT : Int
 ty : ByteArray
structure RD where
 aT : Int
 loc : List ByteArray
 stk : List ByteArray
structure MD where
 nm : ByteArray
 ds : ByteArray
 st : Bool
 nat : Bool
 stk : Int
 loc : Int
 code : List Int
 hs : List HD
 rs : List RD
structure KD where
 nm : ByteArray
 sup : ByteArray
 pool : List CD
 fs : List FD
 ms : List MD
def LAt {α : Type} (k : Nat) (R : World → List Value → α → Prop) (w : World) (ao : Option Addr) (c : Nat) (l : List α) : Prop :=
 l.length ≤ c ∧ c ≤ maxLen ∧ ∃ rows, zAk k w ao l.length rows ∧ ∀ i x, l[i]? = some x → R w (rows i) x
theorem LAt.below {α : Type} {k : Nat} {R : World → List Value → α → Prop} {w w' : World} {ao : Option Addr} {c : Nat} {l : List α} (h : LAt k R w ao c l) (hb : Below w.heap.size w w') (hR : ∀ r x, R w r x → R w' r x) : LAt k R w' ao c l := by
 obtain ⟨h1, h2, rows, h3, h4⟩ := h
 exact ⟨h1, h2, rows, h3.below hb, fun i x hx => hR _ _ (h4 i x hx)⟩
theorem LAt.take {α : Type} {k : Nat} {R : World → List Value → α → Prop} {w : World} {ao : Option Addr} {c : Nat} {l : List α} (h : LAt k R w ao c l) (n : Nat) : LAt k R w ao c (l.take n) := by
 obtain ⟨h1, h2, rows, h3, h4⟩ := h
 have hn : (l.take n).length ≤ l.length := by rw [List.length_take]; omega
 exact ⟨by omega, h2, rows, h3.take hn, fun i x hx => h4 i x (by rw [List.getElem?_take] at hx; split at hx <;> simp_all)⟩
theorem LAt.nil {α : Type} (k : Nat) (R : World → List Value → α → Prop) (w : World) (ao : Option Addr) (c : Nat) (h : c ≤ maxLen) : LAt k R w ao c [] :=
 ⟨Nat.zero_le _, h, fun _ => [], fun hn => absurd hn (by simp), fun i x hx => by simp at hx⟩
theorem LAt.big {α : Type} {k : Nat} {R : World → List Value → α → Prop} {w : World} {ao : Option Addr} {c : Nat} {l : List α} (h : LAt k R w ao c l) : l.length ≤ 9223372036854775807 := by
 have h1 := h.1; have h2 := h.2.1; unfold maxLen at h2; omega
def zDm (_ : World) (r : List Value) (s : ByteArray) : Prop := r = [.string s] ∧ s.size ≤ 9223372036854775807
def zHe (_ : World) (r : List Value) (c : CD) : Prop := r = c.cells ∧ c.Ok
def zFd (_ : World) (r : List Value) (f : FD) : Prop := r = [.string f.nm, .string f.ds, .bool f.st] ∧ f.nm.size ≤ 9223372036854775807 ∧ f.ds.size ≤ 9223372036854775807
def zHl (_ : World) (r : List Value) (h : HD) : Prop := r = [.int .i64 h.fr, .int .i64 h.tO, .int .i64 h.aT, .string h.ty] ∧ h.ty.size ≤ 9223372036854775807
def zAx (w : World) (r : List Value) (f : RD) : Prop :=
 ∃ o1 c1 o2 c2, r = [.int .i64 f.aT, .slice o1 f.loc.length c1, .slice o2 f.stk.length c2] ∧ LAt 1 zDm w o1 c1 f.loc ∧ LAt 1 zDm w o2 c2 f.stk
def zB1 (w : World) (r : List Value) (m : MD) : Prop :=
 ∃ o1 c1 o2 c2 o3 c3, r = [.string m.nm, .string m.ds, .bool m.st, .bool m.nat, .int .i64 m.stk, .int .i64 m.loc, .slice o1 m.code.length c1, .slice o2 m.hs.length c2, .slice o3 m.rs.length c3] ∧
   m.nm.size ≤ 9223372036854775807 ∧ m.ds.size ≤ 9223372036854775807 ∧ View w (.slice o1 m.code.length c1) m.code ∧ LAt 4 zHl w o2 c2 m.hs ∧ LAt 3 zAx w o3 c3 m.rs
def zAp (w : World) (v : Value) (k : KD) : Prop :=
 ∃ o1 c1 o2 c2 o3 c3, v = .agg #[.string k.nm, .string k.sup, .slice o1 k.pool.length c1, .slice o2 k.fs.length c2, .slice o3 k.ms.length c3] ∧
   k.nm.size ≤ 9223372036854775807 ∧ k.sup.size ≤ 9223372036854775807 ∧ LAt 5 zHe w o1 c1 k.pool ∧ LAt 3 zFd w o2 c2 k.fs ∧ LAt 9 zB1 w o3 c3 k.ms
theorem zAx.below {w w' : World} (hb : Below w.heap.size w w') {r : List Value} {f : RD} (h : zAx w r f) : zAx w' r f := by
 obtain ⟨o1, c1, o2, c2, e, h1, h2⟩ := h
 exact ⟨o1, c1, o2, c2, e, h1.below hb (fun _ _ h => h), h2.below hb (fun _ _ h => h)⟩
theorem zB1.below {w w' : World} (hb : Below w.heap.size w w') {r : List Value} {m : MD} (h : zB1 w r m) : zB1 w' r m := by
 obtain ⟨o1, c1, o2, c2, o3, c3, e, s1, s2, h1, h2, h3⟩ := h
 exact ⟨o1, c1, o2, c2, o3, c3, e, s1, s2, h1.below hb, h2.below hb (fun _ _ h => h), h3.below hb (fun _ _ h => h.below hb)⟩
theorem zAp.below {w w' : World} (hb : Below w.heap.size w w') {v : Value} {k : KD} (h : zAp w v k) : zAp w' v k := by
 obtain ⟨o1, c1, o2, c2, o3, c3, e, s1, s2, h1, h2, h3⟩ := h
 exact ⟨o1, c1, o2, c2, o3, c3, e, s1, s2, h1.below hb (fun _ _ h => h), h2.below hb (fun _ _ h => h), h3.below hb (fun _ _ h => h.below hb)⟩
/-! What Right says. -/
def zEx (s : ByteArray) : Bool := (s.toList == [63]) || ((s.toList == [48]) || zB8 (bsB s))
def inB (n m : Int) : Bool := decide (0 ≤ n) && decide (n ≤ m)
def zI0 (h : HD) : Bool := inB h.fr 65535 && (inB h.tO 65535 && (inB h.aT 65535 && zB9 (bsB h.ty)))
def zGy (f : RD) : Bool := inB f.aT 65535
def zLa (f : RD) : Bool := decide (f.loc.length ≤ 16) && decide (f.stk.length ≤ 16)
def zIl (f : RD) : Bool := f.loc.all zEx && f.stk.all zEx
def zQc (m : MD) : Bool := decide (0 < m.code.length) || (decide (0 < m.hs.length) || (decide (0 < m.rs.length) || (decide (0 < m.stk) || decide (0 < m.loc))))
def zH8 (m : MD) : Int :=
 if (m.hs.all zI0 && m.rs.all zGy) = false then 12 else if m.rs.all zLa = false then 3 else if m.rs.all zIl = false then 20 else 0
def zL6 (f o : FD) : Bool := (o.nm.toList == f.nm.toList) && (o.ds.toList == f.ds.toList)
def zIq (f o : MD) : Bool := (o.nm.toList == f.nm.toList) && (o.ds.toList == f.ds.toList)
def zGa (f : FD) (ahead : List FD) : Int := if (zB9 (bsB f.nm) && zB8 (bsB f.ds)) = false then 13 else if ahead.any (zL6 f) = true then 23 else 0
def zFr (m : MD) (ahead : List MD) : Int :=
 if (zB9 (bsB m.nm) && zBj m.ds) = false then 13 else if ahead.any (zIq m) = true then 23
 else if (inB m.stk 16 && (inB m.loc 16 && decide (m.code.length ≤ 1024))) = false then 3
 else if (m.nat && zQc m) = true then 12
 else if (decide (m.hs.length ≤ 64) && decide (m.rs.length ≤ 64)) = false then 4 else zH8 m
def zDk : List FD → List FD → Int
 | _, [] => 0
 | a, f :: l => if zGa f a = 0 then zDk (a ++ [f]) l else zGa f a
def zE6 : List MD → List MD → Int
 | _, [] => 0
 | a, f :: l => if zFr f a = 0 then zE6 (a ++ [f]) l else zFr f a
def zD8 (k : KD) : Int :=
 if (zB9 (bsB k.nm) && (zCn k.sup || zB9 (bsB k.sup))) = false then 13
 else if (decide (k.pool.length ≤ 256) && (decide (k.fs.length ≤ 16) && decide (k.ms.length ≤ 16))) = false then 4
 else if k.pool.all zBd = false then 14
 else if zDk [] k.fs = 0 then zE6 [] k.ms else zDk [] k.fs
/-! Small functions. -/
theorem zDv (n m : Int) (w : World) : Calls Tryz.prog 179 #[.int .i64 n, .int .i64 m] w fun e w' => e = .returned (.bool (inB n m)) ∧ w' = w := by
 unfold inB
 by_cases h1 : 0 ≤ n
 · by_cases h2 : n ≤ m <;>
   · go_enter Tryz.func179, Tryz.ntmps179
     go_wp2
     go_ret
     exact ⟨by simp [h1, h2], rfl⟩
 · go_enter Tryz.func179, Tryz.ntmps179
   go_wp2
   go_ret
   exact ⟨by rw [decide_eq_false (show ¬ 0 ≤ n by omega)]; rfl, rfl⟩
theorem zPm (s : ByteArray) (w : World) (hs : s.size ≤ 9223372036854775807) : Calls Tryz.prog 65 #[.string s] w fun e w' => e = .returned (.bool (zEx s)) ∧ w' = w := by
 have hF := D.zA0 (zAy s w hs)
 unfold zEx bsB
 generalize zB8 s.data.toList = f at *
 cases h1 : s.toList == [63]
 · cases h2 : s.toList == [48]
   · go_enter Tryz.func65, Tryz.ntmps65
     go_wp2_with (go_at_call 117; refine hF.out.mono ?_; rintro e w' ⟨rfl, hww⟩; cases hww)
     go_ret
     exact ⟨by cases f <;> rfl, rfl⟩
   · go_enter Tryz.func65, Tryz.ntmps65
     go_wp2
     go_ret
     exact ⟨rfl, rfl⟩
 · go_enter Tryz.func65, Tryz.ntmps65
   go_wp2
   go_ret
   exact ⟨rfl, rfl⟩
theorem zHz (s : ByteArray) (w : World) (hs : s.size ≤ 9223372036854775807) :
 Calls Tryz.prog 178 #[.string s] w fun e w' => e = .returned (.bool (zBj s)) ∧ Below w.heap.size w w' := by
 have hM := D.zA0 (zAh s w hs)
 go_enter Tryz.func178, Tryz.ntmps178
 go_wp2_with fail
 refine hM.out.mono ?_
 rintro e w' ⟨hb, ha⟩
 rcases ha with ⟨ps, r, v, hm, rfl, ho⟩ | ⟨hm, rfl⟩
 · have HM := D.zA0 hm
   clear hm
   by_cases h : s.size ≤ 256
   · have h' : (s.size : Int) ≤ 256 := by omega
     go_wp2
     go_ret
     exact ⟨by unfold zBj bsB; rw [HM.out, decide_eq_true h]; rfl, hb⟩
   · have h' : ¬ (s.size : Int) ≤ 256 := by omega
     go_wp2
     go_ret
     exact ⟨by unfold zBj bsB; rw [HM.out, decide_eq_false h]; show Ending.returned (.bool (decide ((s.size : Int) ≤ 256))) = _; rw [decide_eq_false (show ¬ (s.size : Int) ≤ 256 by omega)]; rfl, hb⟩
 · have HM := D.zA0 hm
   clear hm
   go_wp2
   go_ret
   exact ⟨by unfold zBj bsB; rw [HM.out]; rfl, hb⟩
end Go.Proofs.YtpehimfnkmepnaaGreat.Q
