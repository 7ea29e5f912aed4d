import Derived.Test.YtpehimfnkmepnaaGreatBy03
set_option maxRecDepth 8000
set_option maxHeartbeats 40000000
namespace Go.Proofs.YtpehimfnkmepnaaGreat.Q
open Go.RowKit
theorem zA6 (w : World) (o : Obj) : Below w.heap.size w (w.alloc o) := (Below.refl _ _).alloc (Nat.le_refl _) o
theorem next {w w1 w2 : World} (h : Below w.heap.size w w1) (k : Below w1.heap.size w1 w2) : Below w.heap.size w w2 := h.trans (k.mono h.size)
def zAo (k : Nat) (w : World) (ao : Option Addr) (n : Nat) (rows : Nat → List Value) : Prop :=
 0 < n → ∃ b off, ao = some ⟨b, off, none⟩ ∧ b < w.heap.size ∧ ∀ j, j < n → ∀ i v, (rows j)[i]? = some v → w.cell? ⟨b, off + j * k + i, none⟩ = some v
theorem zAo.below {k n : Nat} {w w' : World} {ao : Option Addr} {rows : Nat → List Value} (h : zAo k w ao n rows) (hb : Below w.heap.size w w') : zAo k w' ao n rows := by
 intro hn
 obtain ⟨b, off, e, hlt, hc⟩ := h hn
 exact ⟨b, off, e, Nat.lt_of_lt_of_le hlt hb.size, fun j hj i v hv => by rw [hb.cell (p := ⟨b, off + j * k + i, none⟩) hlt]; exact hc j hj i v hv⟩
theorem zAo.take {k n m : Nat} {w : World} {ao : Option Addr} {rows : Nat → List Value} (h : zAo k w ao n rows) (hm : m ≤ n) : zAo k w ao m rows := by
 intro hn
 obtain ⟨b, off, e, hlt, hc⟩ := h (by omega)
 exact ⟨b, off, e, hlt, fun j hj => hc j (by omega)⟩
def Asks (g : Nat) (v : Value) (b : Bool) (w : World) : Prop :=
 ∀ W : World, Below w.heap.size w W → Calls Tryz.prog g #[v] W fun e w' => e = .returned (.bool b) ∧ Below W.heap.size W w'
theorem Asks.below {g : Nat} {v : Value} {b : Bool} {w w' : World} (h : Asks g v b w) (hb : Below w.heap.size w w') : Asks g v b w' :=
 fun W hW => h W (next hb hW)
def allN (n : Nat) (q : Nat → Bool) : Bool := !(anyN n fun j => !(q j))
theorem zH4 {α : Type} (l : List α) (q : Nat → Bool) (f : α → Bool) (h : ∀ i x, l[i]? = some x → q i = f x) : allN l.length q = l.all f := by
 unfold allN
 rw [zFw l _ (fun x => !(f x)) (fun i x hx => by rw [h i x hx]), List.all_eq_not_any_not]
def fnv (g : Nat) : Value := .func (.func g) #[] #[]
def zV6 (r : List Value) : Prop := ∃ (a b : Int) (s t u : ByteArray) , r = [.int .i64 a, .int .i32 b, .string s, .string t, .string u]
theorem cloC (g : Nat) (eg : ∀ args w, (callFunc g args).run Tryz.prog w = .ok (.enter g args) w) (r : List Value) (sh : zV6 r) (b : Bool) (B : Nat) (w : World) (hc : w.cell? ⟨B, 0, none⟩ = some (fnv g)) (h : Asks g (.agg r.toArray) b w) :
 Calls Tryz.prog 171 #[.agg r.toArray, .pointer (some ⟨B, 0, none⟩)] w fun e w' => e = .returned (.bool (!b)) ∧ Below w.heap.size w w' := by
 obtain ⟨a, b, s, t, u, rfl⟩ := sh
 have hB : B < w.heap.size := World.block_lt_of_cell? _ _ hc
 have hca := fun o => cell_later (zA6 w o) hc
 have hcall := fun o => h (w.alloc o) (zA6 w o)
 unfold fnv at hca
 simp only [List.toArray] at hcall ⊢
 go_enter Tryz.func171, Tryz.ntmps171
 go_wp2_with (go_at_fn g; refine (hcall _).mono ?_; rintro e w' ⟨rfl, hb'⟩)
 go_ret
 exact ⟨rfl, next (zA6 w _) hb'⟩
theorem allC (g : Nat) (eg : ∀ args w, (callFunc g args).run Tryz.prog w = .ok (.enter g args) w) (rows : Nat → List Value) (q : Nat → Bool) (ao : Option Addr) (n c : Nat) (w : World) (sh : ∀ j, j < n → zV6 (rows j)) (hbig : n ≤ 9223372036854775807)
 (hr : zAo 5 w ao n rows) (hq : ∀ j, j < n → Asks g (.agg (rows j).toArray) (q j) w) :
 Calls Tryz.prog 148 #[.slice ao n c, fnv g] w fun e w' => e = .returned (.bool (allN n q)) ∧ Below w.heap.size w w' := by
 have hH : ∀ o, (w.alloc o).cell? ⟨w.heap.size, 0, none⟩ = some (fnv g) → Calls Tryz.prog 170 #[.slice ao n c, .func (.func 171) #[] #[.pointer (some ⟨w.heap.size, 0, none⟩)]] (w.alloc o) fun e w' => e = .returned (.bool (anyN n fun j => !(q j))) ∧ Below (w.alloc o).heap.size (w.alloc o) w' := by
  intro o ho
  refine hasQ Tryz.hasC 5 Tryz.isAgg112 Tryz.sizeOf112 rows n (fun j hj => by obtain ⟨_, _, _, _, _, e⟩ := sh j hj; rw [e]; rfl) _ 171 #[.pointer (some ⟨w.heap.size, 0, none⟩)] (enters_of Tryz.func171 (by kernel_rfl) rfl) ao c _ (fun W j hj hW => ?_) hbig (hr.below (zA6 w o))
  refine (cloC g eg (rows j) (sh j hj) (q j) w.heap.size W (cell_later hW ho) ((hq j hj).below (next (zA6 w o) hW))).mono ?_
  rintro e w' ⟨rfl, hb⟩
  exact ⟨rfl, next hW hb⟩
 unfold allN
 generalize (anyN n fun j => !(q j)) = X at hH ⊢
 unfold fnv at hH ⊢
 go_enter Tryz.func148, Tryz.ntmps148
 go_wp2_with (go_at_call 170; refine (hH _ (by simp)).mono ?_; rintro e w' ⟨rfl, hb'⟩)
 go_ret
 exact ⟨rfl, next (zA6 w _) hb'⟩
def zVg (r : List Value) : Prop := ∃ (a b c : Int) (s : ByteArray) , r = [.int .i64 a, .int .i64 b, .int .i64 c, .string s]
theorem cloH (g : Nat) (eg : ∀ args w, (callFunc g args).run Tryz.prog w = .ok (.enter g args) w) (r : List Value) (sh : zVg r) (b : Bool) (B : Nat) (w : World) (hc : w.cell? ⟨B, 0, none⟩ = some (fnv g)) (h : Asks g (.agg r.toArray) b w) :
 Calls Tryz.prog 214 #[.agg r.toArray, .pointer (some ⟨B, 0, none⟩)] w fun e w' => e = .returned (.bool (!b)) ∧ Below w.heap.size w w' := by
 obtain ⟨a, b, c, s, rfl⟩ := sh
 have hB : B < w.heap.size := World.block_lt_of_cell? _ _ hc
 have hca := fun o => cell_later (zA6 w o) hc
 have hcall := fun o => h (w.alloc o) (zA6 w o)
 unfold fnv at hca
 simp only [List.toArray] at hcall ⊢
 go_enter Tryz.func214, Tryz.ntmps214
 go_wp2_with (go_at_fn g; refine (hcall _).mono ?_; rintro e w' ⟨rfl, hb'⟩)
 go_ret
 exact ⟨rfl, next (zA6 w _) hb'⟩
theorem allH (g : Nat) (eg : ∀ args w, (callFunc g args).run Tryz.prog w = .ok (.enter g args) w) (rows : Nat → List Value) (q : Nat → Bool) (ao : Option Addr) (n c : Nat) (w : World) (sh : ∀ j, j < n → zVg (rows j)) (hbig : n ≤ 9223372036854775807)
 (hr : zAo 4 w ao n rows) (hq : ∀ j, j < n → Asks g (.agg (rows j).toArray) (q j) w) :
 Calls Tryz.prog 201 #[.slice ao n c, fnv g] w fun e w' => e = .returned (.bool (allN n q)) ∧ Below w.heap.size w w' := by
 have hH : ∀ o, (w.alloc o).cell? ⟨w.heap.size, 0, none⟩ = some (fnv g) → Calls Tryz.prog 213 #[.slice ao n c, .func (.func 214) #[] #[.pointer (some ⟨w.heap.size, 0, none⟩)]] (w.alloc o) fun e w' => e = .returned (.bool (anyN n fun j => !(q j))) ∧ Below (w.alloc o).heap.size (w.alloc o) w' := by
  intro o ho
  refine hasQ Tryz.hasH 4 Tryz.isAgg154 Tryz.sizeOf154 rows n (fun j hj => by obtain ⟨_, _, _, _, e⟩ := sh j hj; rw [e]; rfl) _ 214 #[.pointer (some ⟨w.heap.size, 0, none⟩)] (enters_of Tryz.func214 (by kernel_rfl) rfl) ao c _ (fun W j hj hW => ?_) hbig (hr.below (zA6 w o))
  refine (cloH g eg (rows j) (sh j hj) (q j) w.heap.size W (cell_later hW ho) ((hq j hj).below (next (zA6 w o) hW))).mono ?_
  rintro e w' ⟨rfl, hb⟩
  exact ⟨rfl, next hW hb⟩
 unfold allN
 generalize (anyN n fun j => !(q j)) = X at hH ⊢
 unfold fnv at hH ⊢
 go_enter Tryz.func201, Tryz.ntmps201
 go_wp2_with (go_at_call 213; refine (hH _ (by simp)).mono ?_; rintro e w' ⟨rfl, hb'⟩)
 go_ret
 exact ⟨rfl, next (zA6 w _) hb'⟩
def zUy (r : List Value) : Prop := ∃ (a : Int) (o1 : Option Addr) (n1 c1 : Nat) (o2 : Option Addr) (n2 c2 : Nat) , r = [.int .i64 a, .slice o1 n1 c1, .slice o2 n2 c2]
theorem cloR (g : Nat) (eg : ∀ args w, (callFunc g args).run Tryz.prog w = .ok (.enter g args) w) (r : List Value) (sh : zUy r) (b : Bool) (B : Nat) (w : World) (hc : w.cell? ⟨B, 0, none⟩ = some (fnv g)) (h : Asks g (.agg r.toArray) b w) :
 Calls Tryz.prog 216 #[.agg r.toArray, .pointer (some ⟨B, 0, none⟩)] w fun e w' => e = .returned (.bool (!b)) ∧ Below w.heap.size w w' := by
 obtain ⟨a, o1, n1, c1, o2, n2, c2, rfl⟩ := sh
 have hB : B < w.heap.size := World.block_lt_of_cell? _ _ hc
 have hca := fun o => cell_later (zA6 w o) hc
 have hcall := fun o => h (w.alloc o) (zA6 w o)
 unfold fnv at hca
 simp only [List.toArray] at hcall ⊢
 go_enter Tryz.func216, Tryz.ntmps216
 go_wp2_with (go_at_fn g; refine (hcall _).mono ?_; rintro e w' ⟨rfl, hb'⟩)
 go_ret
 exact ⟨rfl, next (zA6 w _) hb'⟩
theorem allR (g : Nat) (eg : ∀ args w, (callFunc g args).run Tryz.prog w = .ok (.enter g args) w) (rows : Nat → List Value) (q : Nat → Bool) (ao : Option Addr) (n c : Nat) (w : World) (sh : ∀ j, j < n → zUy (rows j)) (hbig : n ≤ 9223372036854775807)
 (hr : zAo 3 w ao n rows) (hq : ∀ j, j < n → Asks g (.agg (rows j).toArray) (q j) w) :
 Calls Tryz.prog 203 #[.slice ao n c, fnv g] w fun e w' => e = .returned (.bool (allN n q)) ∧ Below w.heap.size w w' := by
 have hH : ∀ o, (w.alloc o).cell? ⟨w.heap.size, 0, none⟩ = some (fnv g) → Calls Tryz.prog 215 #[.slice ao n c, .func (.func 216) #[] #[.pointer (some ⟨w.heap.size, 0, none⟩)]] (w.alloc o) fun e w' => e = .returned (.bool (anyN n fun j => !(q j))) ∧ Below (w.alloc o).heap.size (w.alloc o) w' := by
  intro o ho
  refine hasQ Tryz.hasR 3 Tryz.isAgg67 Tryz.sizeOf67 rows n (fun j hj => by obtain ⟨_, _, _, _, _, _, _, e⟩ := sh j hj; rw [e]; rfl) _ 216 #[.pointer (some ⟨w.heap.size, 0, none⟩)] (enters_of Tryz.func216 (by kernel_rfl) rfl) ao c _ (fun W j hj hW => ?_) hbig (hr.below (zA6 w o))
  refine (cloR g eg (rows j) (sh j hj) (q j) w.heap.size W (cell_later hW ho) ((hq j hj).below (next (zA6 w o) hW))).mono ?_
  rintro e w' ⟨rfl, hb⟩
  exact ⟨rfl, next hW hb⟩
 unfold allN
 generalize (anyN n fun j => !(q j)) = X at hH ⊢
 unfold fnv at hH ⊢
 go_enter Tryz.func203, Tryz.ntmps203
 go_wp2_with (go_at_call 215; refine (hH _ (by simp)).mono ?_; rintro e w' ⟨rfl, hb'⟩)
 go_ret
 exact ⟨rfl, next (zA6 w _) hb'⟩
theorem cloS (g : Nat) (eg : ∀ args w, (callFunc g args).run Tryz.prog w = .ok (.enter g args) w) (s : ByteArray) (b : Bool) (B : Nat) (w : World) (hc : w.cell? ⟨B, 0, none⟩ = some (fnv g)) (h : Asks g (.string s) b w) :
 Calls Tryz.prog 237 #[.string s, .pointer (some ⟨B, 0, none⟩)] w fun e w' => e = .returned (.bool (!b)) ∧ Below w.heap.size w w' := by
 have hcall := h w (Below.refl _ _)
 unfold fnv at hc
 go_enter Tryz.func237, Tryz.ntmps237
 go_wp2_with (go_at_fn g; refine hcall.mono ?_; rintro e w' ⟨rfl, hb'⟩)
 go_ret
 exact ⟨rfl, hb'⟩
theorem allS (g : Nat) (eg : ∀ args w, (callFunc g args).run Tryz.prog w = .ok (.enter g args) w) (tx : Nat → ByteArray) (q : Nat → Bool) (ao : Option Addr) (n c : Nat) (w : World) (hbig : n ≤ 9223372036854775807)
 (hr : zAo 1 w ao n (fun j => [.string (tx j)])) (hq : ∀ j, j < n → Asks g (.string (tx j)) (q j) w) :
 Calls Tryz.prog 217 #[.slice ao n c, fnv g] w fun e w' => e = .returned (.bool (allN n q)) ∧ Below w.heap.size w w' := by
 have hH : ∀ o, (w.alloc o).cell? ⟨w.heap.size, 0, none⟩ = some (fnv g) → Calls Tryz.prog 91 #[.slice ao n c, .func (.func 237) #[] #[.pointer (some ⟨w.heap.size, 0, none⟩)]] (w.alloc o) fun e w' => e = .returned (.bool (anyN n fun j => !(q j))) ∧ Below (w.alloc o).heap.size (w.alloc o) w' := by
  intro o ho
  refine hasE Tryz.hasS (fun j => .string (tx j)) _ 237 #[.pointer (some ⟨w.heap.size, 0, none⟩)] (enters_of Tryz.func237 (by kernel_rfl) rfl) ao n c _ (fun W j hj hW => ?_) hbig ?_
  · refine (cloS g eg (tx j) (q j) w.heap.size W (cell_later hW ho) ((hq j hj).below (next (zA6 w o) hW))).mono ?_
    rintro e w' ⟨rfl, hb⟩
    exact ⟨rfl, next hW hb⟩
  · intro hn
    obtain ⟨b, off, e, hb, hc⟩ := (hr.below (zA6 w o)) hn
    exact ⟨b, off, e, hb, fun j hj => by have := hc j hj 0 _ rfl; simpa using this⟩
 unfold allN
 generalize (anyN n fun j => !(q j)) = X at hH ⊢
 unfold fnv at hH ⊢
 go_enter Tryz.func217, Tryz.ntmps217
 go_wp2_with (go_at_call 91; refine (hH _ (by simp)).mono ?_; rintro e w' ⟨rfl, hb'⟩)
 go_ret
 exact ⟨rfl, next (zA6 w _) hb'⟩
end Go.Proofs.YtpehimfnkmepnaaGreat.Q
namespace Go.Proofs.YtpehimfnkmepnaaGreat.Q
open Go.RowKit D
structure FD where
 nm : ByteArray
 ds : ByteArray
 st : Bool
structure HD where
 fr : Int
 tO : Int
 aT : Int
 ty : ByteArray
structure RD where
 aT : Int
 loc : List ByteArray
 stk : List ByteArray
structure MD where
 nm : ByteArray
 ds : ByteArray
 st : Bool
 nat : Bool
 stk : Int
 loc : Int
 code : List Int
 hs : List HD
 rs : List RD
structure KD where
 nm : ByteArray
 sup : ByteArray
 pool : List CD
 fs : List FD
 ms : List MD
def LAt {α : Type} (k : Nat) (R : World → List Value → α → Prop) (w : World) (ao : Option Addr) (c : Nat) (l : List α) : Prop :=
 l.length ≤ c ∧ c ≤ maxLen ∧ ∃ rows, zAo k w ao l.length rows ∧ ∀ i x, l[i]? = some x → R w (rows i) x
theorem LAt.below {α : Type} {k : Nat} {R : World → List Value → α → Prop} {w w' : World} {ao : Option Addr} {c : Nat} {l : List α} (h : LAt k R w ao c l) (hb : Below w.heap.size w w') (hR : ∀ r x, R w r x → R w' r x) : LAt k R w' ao c l := by
 obtain ⟨h1, h2, rows, h3, h4⟩ := h
 exact ⟨h1, h2, rows, h3.below hb, fun i x hx => hR _ _ (h4 i x hx)⟩
theorem LAt.take {α : Type} {k : Nat} {R : World → List Value → α → Prop} {w : World} {ao : Option Addr} {c : Nat} {l : List α} (h : LAt k R w ao c l) (n : Nat) : LAt k R w ao c (l.take n) := by
 obtain ⟨h1, h2, rows, h3, h4⟩ := h
 have hn : (l.take n).length ≤ l.length := by rw [List.length_take]; omega
 exact ⟨by omega, h2, rows, h3.take hn, fun i x hx => h4 i x (by rw [List.getElem?_take] at hx; split at hx <;> simp_all)⟩
theorem LAt.nil {α : Type} (k : Nat) (R : World → List Value → α → Prop) (w : World) (ao : Option Addr) (c : Nat) (h : c ≤ maxLen) : LAt k R w ao c [] :=
 ⟨Nat.zero_le _, h, fun _ => [], fun hn => absurd hn (by simp), fun i x hx => by simp at hx⟩
theorem LAt.big {α : Type} {k : Nat} {R : World → List Value → α → Prop} {w : World} {ao : Option Addr} {c : Nat} {l : List α} (h : LAt k R w ao c l) : l.length ≤ 9223372036854775807 := by
 have h1 := h.1; have h2 := h.2.1; unfold maxLen at h2; omega
def zD4 (_ : World) (r : List Value) (s : ByteArray) : Prop := r = [.string s] ∧ s.size ≤ 9223372036854775807
def zJm (_ : World) (r : List Value) (c : CD) : Prop := r = c.cells ∧ c.Ok
def zH8 (_ : World) (r : List Value) (f : FD) : Prop := r = [.string f.nm, .string f.ds, .bool f.st] ∧ f.nm.size ≤ 9223372036854775807 ∧ f.ds.size ≤ 9223372036854775807
def zJ9 (_ : World) (r : List Value) (h : HD) : Prop := r = [.int .i64 h.fr, .int .i64 h.tO, .int .i64 h.aT, .string h.ty] ∧ h.ty.size ≤ 9223372036854775807
def zBi (w : World) (r : List Value) (f : RD) : Prop :=
 ∃ o1 c1 o2 c2, r = [.int .i64 f.aT, .slice o1 f.loc.length c1, .slice o2 f.stk.length c2] ∧ LAt 1 zD4 w o1 c1 f.loc ∧ LAt 1 zD4 w o2 c2 f.stk
def zBk (w : World) (r : List Value) (m : MD) : Prop :=
 ∃ o1 c1 o2 c2 o3 c3, r = [.string m.nm, .string m.ds, .bool m.st, .bool m.nat, .int .i64 m.stk, .int .i64 m.loc, .slice o1 m.code.length c1, .slice o2 m.hs.length c2, .slice o3 m.rs.length c3] ∧
   m.nm.size ≤ 9223372036854775807 ∧ m.ds.size ≤ 9223372036854775807 ∧ View w (.slice o1 m.code.length c1) m.code ∧ LAt 4 zJ9 w o2 c2 m.hs ∧ LAt 3 zBi w o3 c3 m.rs
def zAg (w : World) (v : Value) (k : KD) : Prop :=
 ∃ o1 c1 o2 c2 o3 c3, v = .agg #[.string k.nm, .string k.sup, .slice o1 k.pool.length c1, .slice o2 k.fs.length c2, .slice o3 k.ms.length c3] ∧
   k.nm.size ≤ 9223372036854775807 ∧ k.sup.size ≤ 9223372036854775807 ∧ LAt 5 zJm w o1 c1 k.pool ∧ LAt 3 zH8 w o2 c2 k.fs ∧ LAt 9 zBk w o3 c3 k.ms
theorem zBi.below {w w' : World} (hb : Below w.heap.size w w') {r : List Value} {f : RD} (h : zBi w r f) : zBi w' r f := by
 obtain ⟨o1, c1, o2, c2, e, h1, h2⟩ := h
 exact ⟨o1, c1, o2, c2, e, h1.below hb (fun _ _ h => h), h2.below hb (fun _ _ h => h)⟩
theorem zBk.below {w w' : World} (hb : Below w.heap.size w w') {r : List Value} {m : MD} (h : zBk w r m) : zBk w' r m := by
 obtain ⟨o1, c1, o2, c2, o3, c3, e, s1, s2, h1, h2, h3⟩ := h
 exact ⟨o1, c1, o2, c2, o3, c3, e, s1, s2, h1.below hb, h2.below hb (fun _ _ h => h), h3.below hb (fun _ _ h => h.below hb)⟩
theorem zAg.below {w w' : World} (hb : Below w.heap.size w w') {v : Value} {k : KD} (h : zAg w v k) : zAg w' v k := by
 obtain ⟨o1, c1, o2, c2, o3, c3, e, s1, s2, h1, h2, h3⟩ := h
 exact ⟨o1, c1, o2, c2, o3, c3, e, s1, s2, h1.below hb (fun _ _ h => h), h2.below hb (fun _ _ h => h), h3.below hb (fun _ _ h => h.below hb)⟩
/-! What Right says. -/
def zCz (s : ByteArray) : Bool := (s.toList == [63]) || ((s.toList == [48]) || zAp (bsB s))
def inB (n m : Int) : Bool := decide (0 ≤ n) && decide (n ≤ m)
def zHy (h : HD) : Bool := inB h.fr 65535 && (inB h.tO 65535 && (inB h.aT 65535 && zAw (bsB h.ty)))
def zGa (f : RD) : Bool := inB f.aT 65535
def zNv (f : RD) : Bool := decide (f.loc.length ≤ 16) && decide (f.stk.length ≤ 16)
def zKl (f : RD) : Bool := f.loc.all zCz && f.stk.all zCz
def zTe (m : MD) : Bool := decide (0 < m.code.length) || (decide (0 < m.hs.length) || (decide (0 < m.rs.length) || (decide (0 < m.stk) || decide (0 < m.loc))))
def zJi (m : MD) : Int :=
 if (m.hs.all zHy && m.rs.all zGa) = false then 12 else if m.rs.all zNv = false then 3 else if m.rs.all zKl = false then 20 else 0
def zHm (f o : FD) : Bool := (o.nm.toList == f.nm.toList) && (o.ds.toList == f.ds.toList)
def zHt (f o : MD) : Bool := (o.nm.toList == f.nm.toList) && (o.ds.toList == f.ds.toList)
def zFh (f : FD) (ahead : List FD) : Int := if (zAw (bsB f.nm) && zAp (bsB f.ds)) = false then 13 else if ahead.any (zHm f) = true then 23 else 0
def zGl (m : MD) (ahead : List MD) : Int :=
 if (zAw (bsB m.nm) && zBr m.ds) = false then 13 else if ahead.any (zHt m) = true then 23
 else if (inB m.stk 16 && (inB m.loc 16 && decide (m.code.length ≤ 1024))) = false then 3
 else if (m.nat && zTe m) = true then 12
 else if (decide (m.hs.length ≤ 64) && decide (m.rs.length ≤ 64)) = false then 4 else zJi m
def zCs : List FD → List FD → Int
 | _, [] => 0
 | a, f :: l => if zFh f a = 0 then zCs (a ++ [f]) l else zFh f a
def zEb : List MD → List MD → Int
 | _, [] => 0
 | a, f :: l => if zGl f a = 0 then zEb (a ++ [f]) l else zGl f a
def zDl (k : KD) : Int :=
 if (zAw (bsB k.nm) && (zCp k.sup || zAw (bsB k.sup))) = false then 13
 else if (decide (k.pool.length ≤ 256) && (decide (k.fs.length ≤ 16) && decide (k.ms.length ≤ 16))) = false then 4
 else if k.pool.all zB2 = false then 14
 else if zCs [] k.fs = 0 then zEb [] k.ms else zCs [] k.fs
/-! Small functions. -/
theorem zEv (n m : Int) (w : World) : Calls Tryz.prog 179 #[.int .i64 n, .int .i64 m] w fun e w' => e = .returned (.bool (inB n m)) ∧ w' = w := by
 unfold inB
 by_cases h1 : 0 ≤ n
 · by_cases h2 : n ≤ m <;>
   · go_enter Tryz.func179, Tryz.ntmps179
     go_wp2
     go_ret
     exact ⟨by simp [h1, h2], rfl⟩
 · go_enter Tryz.func179, Tryz.ntmps179
   go_wp2
   go_ret
   exact ⟨by rw [decide_eq_false (show ¬ 0 ≤ n by omega)]; rfl, rfl⟩
theorem zL4 (s : ByteArray) (w : World) (hs : s.size ≤ 9223372036854775807) : Calls Tryz.prog 65 #[.string s] w fun e w' => e = .returned (.bool (zCz s)) ∧ w' = w := by
 have hF := D.zA0 (zB5 s w hs)
 unfold zCz bsB
 generalize zAp s.data.toList = f at *
 cases h1 : s.toList == [63]
 · cases h2 : s.toList == [48]
   · go_enter Tryz.func65, Tryz.ntmps65
     go_wp2_with (go_at_call 117; refine hF.out.mono ?_; rintro e w' ⟨rfl, hww⟩; cases hww)
     go_ret
     exact ⟨by cases f <;> rfl, rfl⟩
   · go_enter Tryz.func65, Tryz.ntmps65
     go_wp2
     go_ret
     exact ⟨rfl, rfl⟩
 · go_enter Tryz.func65, Tryz.ntmps65
   go_wp2
   go_ret
   exact ⟨rfl, rfl⟩
theorem zK4 (s : ByteArray) (w : World) (hs : s.size ≤ 9223372036854775807) :
 Calls Tryz.prog 178 #[.string s] w fun e w' => e = .returned (.bool (zBr s)) ∧ Below w.heap.size w w' := by
 have hM := D.zA0 (zAk s w hs)
 go_enter Tryz.func178, Tryz.ntmps178
 go_wp2_with fail
 refine hM.out.mono ?_
 rintro e w' ⟨hb, ha⟩
 rcases ha with ⟨ps, r, v, hm, rfl, ho⟩ | ⟨hm, rfl⟩
 · have HM := D.zA0 hm
   clear hm
   by_cases h : s.size ≤ 256
   · have h' : (s.size : Int) ≤ 256 := by omega
     go_wp2
     go_ret
     exact ⟨by unfold zBr bsB; rw [HM.out, decide_eq_true h]; rfl, hb⟩
   · have h' : ¬ (s.size : Int) ≤ 256 := by omega
     go_wp2
     go_ret
     exact ⟨by unfold zBr bsB; rw [HM.out, decide_eq_false h]; show Ending.returned (.bool (decide ((s.size : Int) ≤ 256))) = _; rw [decide_eq_false (show ¬ (s.size : Int) ≤ 256 by omega)]; rfl, hb⟩
 · have HM := D.zA0 hm
   clear hm
   go_wp2
   go_ret
   exact ⟨by unfold zBr bsB; rw [HM.out]; rfl, hb⟩
theorem zO7 (h : HD) (w : World) : Calls Tryz.prog 202 #[.agg #[.int .i64 h.fr, .int .i64 h.tO, .int .i64 h.aT, .string h.ty]] w fun e w' => e = .returned (.bool (zHy h)) ∧ Below w.heap.size w w' := by
 have h1 := fun w => D.zA0 (zEv h.fr 65535 w)
 have h2 := fun w => D.zA0 (zEv h.tO 65535 w)
 have h3 := fun w => D.zA0 (zEv h.aT 65535 w)
 have h4 := fun w => D.zA0 (zEg h.ty w)
 unfold zHy bsB
 generalize inB h.fr 65535 = a at *
 generalize inB h.tO 65535 = b at *
 generalize inB h.aT 65535 = c at *
 generalize zAw h.ty.data.toList = d at *
 obtain ⟨fr, tO, aT, ty⟩ := h
 simp only at h1 h2 h3 h4 ⊢
 cases a
 · go_enter Tryz.func202, Tryz.ntmps202
   go_wp2_with fail
   refine (h1 _).out.mono ?_
   rintro e w' ⟨rfl, hww⟩; cases hww
   go_wp2
   go_ret
   exact ⟨rfl, zA6 _ _⟩
 cases b
 · go_enter Tryz.func202, Tryz.ntmps202
   go_wp2_with fail
   refine (h1 _).out.mono ?_
   rintro e w' ⟨rfl, hww⟩; cases hww
   go_wp2_with fail
   refine (h2 _).out.mono ?_
   rintro e w' ⟨rfl, hww⟩; cases hww
   go_wp2
   go_ret
   exact ⟨rfl, zA6 _ _⟩
 cases c
 · go_enter Tryz.func202, Tryz.ntmps202
   go_wp2_with fail
   refine (h1 _).out.mono ?_
   rintro e w' ⟨rfl, hww⟩; cases hww
   go_wp2_with fail
   refine (h2 _).out.mono ?_
   rintro e w' ⟨rfl, hww⟩; cases hww
   go_wp2_with fail
   refine (h3 _).out.mono ?_
   rintro e w' ⟨rfl, hww⟩; cases hww
   go_wp2
   go_ret
   exact ⟨rfl, zA6 _ _⟩
 · go_enter Tryz.func202, Tryz.ntmps202
   go_wp2_with fail
   refine (h1 _).out.mono ?_
   rintro e w' ⟨rfl, hww⟩; cases hww
   go_wp2_with fail
   refine (h2 _).out.mono ?_
   rintro e w' ⟨rfl, hww⟩; cases hww
   go_wp2_with fail
   refine (h3 _).out.mono ?_
   rintro e w' ⟨rfl, hww⟩; cases hww
   go_wp2_with fail
   refine (h4 _).out.mono ?_
   rintro e w' ⟨rfl, hww⟩; cases hww
   go_wp2
   go_ret
   exact ⟨by cases d <;> rfl, zA6 _ _⟩
theorem zS1 (a : Int) (o1 : Option Addr) (n1 c1 : Nat) (o2 : Option Addr) (n2 c2 : Nat) (w : World) : Calls Tryz.prog 204 #[.agg #[.int .i64 a, .slice o1 n1 c1, .slice o2 n2 c2]] w fun e w' => e = .returned (.bool (inB a 65535)) ∧ Below w.heap.size w w' := by
 have h1 := fun w => D.zA0 (zEv a 65535 w)
 go_enter Tryz.func204, Tryz.ntmps204
 go_wp2_with (go_at_call 179; refine (h1 _).out.mono ?_; rintro e w' ⟨rfl, hww⟩; cases hww)
 go_ret
 exact ⟨rfl, zA6 _ _⟩
theorem zTb (a : Int) (o1 : Option Addr) (n1 c1 : Nat) (o2 : Option Addr) (n2 c2 : Nat) (w : World) : Calls Tryz.prog 205 #[.agg #[.int .i64 a, .slice o1 n1 c1, .slice o2 n2 c2]] w fun e w' => e = .returned (.bool (decide (n1 ≤ 16) && decide (n2 ≤ 16))) ∧ Below w.heap.size w w' := by
 by_cases h1 : n1 ≤ 16
 · have h1' : (n1 : Int) ≤ 16 := by omega
   by_cases h2 : n2 ≤ 16
   · have h2' : (n2 : Int) ≤ 16 := by omega
     go_enter Tryz.func205, Tryz.ntmps205
     go_wp2
     go_ret
     exact ⟨by first | rfl | (rw [decide_eq_true h1, decide_eq_true h2]; rfl), zA6 _ _⟩
   · have h2' : ¬ (n2 : Int) ≤ 16 := by omega
     go_enter Tryz.func205, Tryz.ntmps205
     go_wp2
     go_ret
     exact ⟨by first | rfl | (rw [decide_eq_true h1, decide_eq_false h2]; rfl), zA6 _ _⟩
 · have h1' : ¬ (n1 : Int) ≤ 16 := by omega
   go_enter Tryz.func205, Tryz.ntmps205
   go_wp2
   go_ret
   exact ⟨by first | rfl | (rw [decide_eq_false h1]; rfl), zA6 _ _⟩
theorem zOf (ao : Option Addr) (c : Nat) (l : List ByteArray) (w : World) (h : LAt 1 zD4 w ao c l) : Calls Tryz.prog 217 #[.slice ao l.length c, fnv 65] w fun e w' => e = .returned (.bool (l.all zCz)) ∧ Below w.heap.size w w' := by
 obtain ⟨h1, h2, rows, h3, h4⟩ := h
 have hr : zAo 1 w ao l.length (fun j => [.string (l.getD j ⟨#[]⟩)]) := by
  intro hn
  obtain ⟨b, off, e, hlt, hc⟩ := h3 hn
  refine ⟨b, off, e, hlt, fun j hj i v hv => ?_⟩
  have := (h4 j l[j] (List.getElem?_eq_getElem hj)).1
  refine hc j hj i v ?_
  rw [this, ← hv]
  simp [List.getD_eq_getElem?_getD, List.getElem?_eq_getElem hj]
 have := allS 65 (enters_of Tryz.func65 (by kernel_rfl) rfl) (fun j => l.getD j ⟨#[]⟩) (fun j => zCz (l.getD j ⟨#[]⟩)) ao l.length c w (by unfold maxLen at h2; omega) hr (fun j hj W hW => by
  have h5 := (h4 j l[j] (List.getElem?_eq_getElem hj)).2
  have e : l.getD j ⟨#[]⟩ = l[j] := by simp [List.getD_eq_getElem?_getD, List.getElem?_eq_getElem hj]
  rw [e]
  refine (zL4 _ W h5).mono ?_
  rintro e w' ⟨rfl, rfl⟩
  exact ⟨rfl, Below.refl _ _⟩)
 rw [zH4 l _ zCz (fun i x hx => by rw [List.getD_eq_getElem?_getD, hx]; rfl)] at this
 exact this
theorem zT5 (a : Int) (o1 : Option Addr) (c1 : Nat) (o2 : Option Addr) (c2 : Nat) (l1 l2 : List ByteArray) (w : World) (k1 : LAt 1 zD4 w o1 c1 l1) (k2 : LAt 1 zD4 w o2 c2 l2) : Calls Tryz.prog 206 #[.agg #[.int .i64 a, .slice o1 l1.length c1, .slice o2 l2.length c2]] w fun e w' => e = .returned (.bool (l1.all zCz && l2.all zCz)) ∧ Below w.heap.size w w' := by
 have h1 := fun o => D.zA0 (zOf o1 c1 l1 (w.alloc o) (k1.below (zA6 _ _) (fun _ _ h => h)))
 have h2 := fun W (hW : Below w.heap.size w W) => D.zA0 (zOf o2 c2 l2 W (k2.below hW (fun _ _ h => h)))
 generalize l1.all zCz = x at *
 generalize l2.all zCz = y at *
 generalize l1.length = n1 at *
 generalize l2.length = n2 at *
 unfold fnv at h1 h2
 cases x
 · go_enter Tryz.func206, Tryz.ntmps206
   go_wp2_with (go_at_call 217; refine (h1 _).out.mono ?_; rintro e w' ⟨rfl, hb⟩)
   go_ret
   exact ⟨rfl, next (zA6 _ _) hb⟩
 · go_enter Tryz.func206, Tryz.ntmps206
   go_wp2_with fail
   refine (h1 _).out.mono ?_
   rintro e w1 ⟨rfl, hb⟩
   have hb1 := next (zA6 _ _) hb
   have hc := cell_later hb (show (w.alloc (.cells #[.int .i64 a, .slice o1 n1 c1, .slice o2 n2 c2] 67)).cell? ⟨w.heap.size, 2, none⟩ = some (.slice o2 n2 c2) by simp)
   have h2' := h2 w1 hb1
   clear h2 h1
   go_wp2_with (go_at_call 217; refine h2'.out.mono ?_; rintro e w2 ⟨rfl, hb2⟩)
   go_ret
   exact ⟨by cases y <;> rfl, next hb1 hb2⟩
theorem zJb (g : Nat) (eg : ∀ args w, (callFunc g args).run Tryz.prog w = .ok (.enter g args) w) (f : RD → Bool)
 (hg : ∀ (W : World) (r : List Value) (x : RD), zBi W r x → Calls Tryz.prog g #[.agg r.toArray] W fun e w' => e = .returned (.bool (f x)) ∧ Below W.heap.size W w')
 (ao : Option Addr) (c : Nat) (l : List RD) (w : World) (h : LAt 3 zBi w ao c l) : Calls Tryz.prog 203 #[.slice ao l.length c, fnv g] w fun e w' => e = .returned (.bool (l.all f)) ∧ Below w.heap.size w w' := by
 have hbig := h.big
 obtain ⟨h1, h2, rows, h3, h4⟩ := h
 have := allR g eg rows (fun j => f (l.getD j ⟨0, [], []⟩)) ao l.length c w (fun j hj => by
  obtain ⟨o1, c1, o2, c2, e, _, _⟩ := h4 j l[j] (List.getElem?_eq_getElem hj)
  exact ⟨_, _, _, _, _, _, _, e⟩) hbig h3 (fun j hj W hW => by
  have e : l.getD j ⟨0, [], []⟩ = l[j] := by simp [List.getD_eq_getElem?_getD, List.getElem?_eq_getElem hj]
  rw [e]
  exact hg W _ _ ((h4 j l[j] (List.getElem?_eq_getElem hj)).below hW))
 rw [zH4 l _ f (fun i x hx => by rw [List.getD_eq_getElem?_getD, hx]; rfl)] at this
 exact this
theorem zNt (ao : Option Addr) (c : Nat) (l : List HD) (w : World) (h : LAt 4 zJ9 w ao c l) : Calls Tryz.prog 201 #[.slice ao l.length c, fnv 202] w fun e w' => e = .returned (.bool (l.all zHy)) ∧ Below w.heap.size w w' := by
 have hbig := h.big
 obtain ⟨h1, h2, rows, h3, h4⟩ := h
 have := allH 202 (enters_of Tryz.func202 (by kernel_rfl) rfl) rows (fun j => zHy (l.getD j ⟨0, 0, 0, ⟨#[]⟩⟩)) ao l.length c w (fun j hj => by
  exact ⟨_, _, _, _, (h4 j l[j] (List.getElem?_eq_getElem hj)).1⟩) hbig h3 (fun j hj W hW => by
  have e : l.getD j ⟨0, 0, 0, ⟨#[]⟩⟩ = l[j] := by simp [List.getD_eq_getElem?_getD, List.getElem?_eq_getElem hj]
  rw [e, (h4 j l[j] (List.getElem?_eq_getElem hj)).1]
  exact zO7 _ W)
 rw [zH4 l _ zHy (fun i x hx => by rw [List.getD_eq_getElem?_getD, hx]; rfl)] at this
 exact this
theorem zRi (ao : Option Addr) (c : Nat) (l : List CD) (w : World) (h : LAt 5 zJm w ao c l) : Calls Tryz.prog 148 #[.slice ao l.length c, fnv 149] w fun e w' => e = .returned (.bool (l.all zB2)) ∧ Below w.heap.size w w' := by
 have hbig := h.big
 obtain ⟨h1, h2, rows, h3, h4⟩ := h
 have := allC 149 (enters_of Tryz.func149 (by kernel_rfl) rfl) rows (fun j => zB2 (l.getD j zPk)) ao l.length c w (fun j hj => by
  exact ⟨_, _, _, _, _, (h4 j l[j] (List.getElem?_eq_getElem hj)).1⟩) hbig h3 (fun j hj W hW => by
  have e : l.getD j zPk = l[j] := by simp [List.getD_eq_getElem?_getD, List.getElem?_eq_getElem hj]
  rw [e, (h4 j l[j] (List.getElem?_eq_getElem hj)).1]
  exact zQm _ W (h4 j l[j] (List.getElem?_eq_getElem hj)).2.toFits)
 rw [zH4 l _ zB2 (fun i x hx => by rw [List.getD_eq_getElem?_getD, hx]; rfl)] at this
 exact this
theorem zS8 (ao : Option Addr) (c : Nat) (l : List RD) (w : World) (h : LAt 3 zBi w ao c l) : Calls Tryz.prog 203 #[.slice ao l.length c, fnv 204] w fun e w' => e = .returned (.bool (l.all zGa)) ∧ Below w.heap.size w w' :=
 zJb 204 (enters_of Tryz.func204 (by kernel_rfl) rfl) zGa (fun W r x hx => by obtain ⟨o1, c1, o2, c2, rfl, _, _⟩ := hx; exact zS1 _ _ _ _ _ _ _ W) ao c l w h
theorem zUb (ao : Option Addr) (c : Nat) (l : List RD) (w : World) (h : LAt 3 zBi w ao c l) : Calls Tryz.prog 203 #[.slice ao l.length c, fnv 205] w fun e w' => e = .returned (.bool (l.all zNv)) ∧ Below w.heap.size w w' :=
 zJb 205 (enters_of Tryz.func205 (by kernel_rfl) rfl) zNv (fun W r x hx => by obtain ⟨o1, c1, o2, c2, rfl, _, _⟩ := hx; exact zTb _ _ _ _ _ _ _ W) ao c l w h
theorem zTr (ao : Option Addr) (c : Nat) (l : List RD) (w : World) (h : LAt 3 zBi w ao c l) : Calls Tryz.prog 203 #[.slice ao l.length c, fnv 206] w fun e w' => e = .returned (.bool (l.all zKl)) ∧ Below w.heap.size w w' :=
 zJb 206 (enters_of Tryz.func206 (by kernel_rfl) rfl) zKl (fun W r x hx => by obtain ⟨o1, c1, o2, c2, rfl, k1, k2⟩ := hx; exact zT5 _ _ _ _ _ _ _ W k1 k2) ao c l w h
theorem zS7 (m : MD) (o1 : Option Addr) (n1 c1 : Nat) (o2 : Option Addr) (c2 : Nat) (o3 : Option Addr) (c3 : Nat) (w : World) (k2 : LAt 4 zJ9 w o2 c2 m.hs) (k3 : LAt 3 zBi w o3 c3 m.rs) :
 Calls Tryz.prog 181 #[.agg #[.string m.nm, .string m.ds, .bool m.st, .bool m.nat, .int .i64 m.stk, .int .i64 m.loc, .slice o1 n1 c1, .slice o2 m.hs.length c2, .slice o3 m.rs.length c3]] w fun e w' => e = .returned (.int .i64 (zJi m)) ∧ Below w.heap.size w w' := by
 have h1 := fun o => D.zA0 (zNt o2 c2 m.hs (w.alloc o) (k2.below (zA6 _ _) (fun _ _ h => h)))
 have h2 := fun W (hW : Below w.heap.size w W) => D.zA0 (zS8 o3 c3 m.rs W (k3.below hW (fun _ _ h => h.below hW)))
 have h3 := fun W (hW : Below w.heap.size w W) => D.zA0 (zUb o3 c3 m.rs W (k3.below hW (fun _ _ h => h.below hW)))
 have h4 := fun W (hW : Below w.heap.size w W) => D.zA0 (zTr o3 c3 m.rs W (k3.below hW (fun _ _ h => h.below hW)))
 unfold zJi
 generalize m.hs.all zHy = x1 at *
 generalize m.rs.all zGa = x2 at *
 generalize m.rs.all zNv = x3 at *
 generalize m.rs.all zKl = x4 at *
 clear k2 k3
 generalize m.hs.length = n2 at *
 generalize m.rs.length = n3 at *
 obtain ⟨nm, ds, st, nat, stk, loc, code, hs, rs⟩ := m
 simp only at h1 h2 h3 h4 ⊢
 have hcell : ∀ W, Below (w.alloc (.cells #[.string nm, .string ds, .bool st, .bool nat, .int .i64 stk, .int .i64 loc, .slice o1 n1 c1, .slice o2 n2 c2, .slice o3 n3 c3] 39)).heap.size (w.alloc (.cells #[.string nm, .string ds, .bool st, .bool nat, .int .i64 stk, .int .i64 loc, .slice o1 n1 c1, .slice o2 n2 c2, .slice o3 n3 c3] 39)) W → W.cell? ⟨w.heap.size, 8, none⟩ = some (.slice o3 n3 c3) := fun W hW => cell_later hW (by simp)
 unfold fnv at h1 h2 h3 h4
 have B0 := zA6 w (.cells #[.string nm, .string ds, .bool st, .bool nat, .int .i64 stk, .int .i64 loc, .slice o1 n1 c1, .slice o2 n2 c2, .slice o3 n3 c3] 39)
 cases x1
 · go_enter Tryz.func181, Tryz.ntmps181
   go_wp2_with fail
   refine (h1 _).out.mono ?_
   rintro e w1 ⟨rfl, b1⟩
   go_wp2
   go_ret
   exact ⟨rfl, next B0 b1⟩
 go_enter Tryz.func181, Tryz.ntmps181
 go_wp2_with fail
 refine (h1 _).out.mono ?_
 rintro e w1 ⟨rfl, b1⟩
 have l1 := hcell _ b1
 have g2 := h2 w1 (next B0 b1)
 clear h1 h2
 cases x2
 · go_wp2_with fail
   refine g2.out.mono ?_
   rintro e w2 ⟨rfl, b2⟩
   go_wp2
   go_ret
   exact ⟨rfl, next B0 (next b1 b2)⟩
 go_wp2_with fail
 refine g2.out.mono ?_
 rintro e w2 ⟨rfl, b2⟩
 have l2 := hcell _ (next b1 b2)
 have g3 := h3 w2 (next B0 (next b1 b2))
 clear h3 g2
 cases x3
 · go_wp2_with fail
   refine g3.out.mono ?_
   rintro e w3 ⟨rfl, b3⟩
   go_wp2
   go_ret
   exact ⟨rfl, next B0 (next b1 (next b2 b3))⟩
 go_wp2_with fail
 refine g3.out.mono ?_
 rintro e w3 ⟨rfl, b3⟩
 have l3 := hcell _ (next b1 (next b2 b3))
 have g4 := h4 w3 (next B0 (next b1 (next b2 b3)))
 clear h4 g3
 cases x4
 · go_wp2_with fail
   refine g4.out.mono ?_
   rintro e w4 ⟨rfl, b4⟩
   go_wp2
   go_ret
   exact ⟨rfl, next B0 (next b1 (next b2 (next b3 b4)))⟩
 go_wp2_with fail
 refine g4.out.mono ?_
 rintro e w4 ⟨rfl, b4⟩
 go_wp2
 go_ret
 exact ⟨rfl, next B0 (next b1 (next b2 (next b3 b4)))⟩
theorem zN3 (m : MD) (o1 : Option Addr) (c1 : Nat) (o2 : Option Addr) (c2 : Nat) (o3 : Option Addr) (c3 : Nat) (w : World) :
 Calls Tryz.prog 180 #[.agg #[.string m.nm, .string m.ds, .bool m.st, .bool m.nat, .int .i64 m.stk, .int .i64 m.loc, .slice o1 m.code.length c1, .slice o2 m.hs.length c2, .slice o3 m.rs.length c3]] w fun e w' => e = .returned (.bool (zTe m)) ∧ Below w.heap.size w w' := by
 unfold zTe
 generalize m.code.length = n1 at *
 generalize m.hs.length = n2 at *
 generalize m.rs.length = n3 at *
 obtain ⟨nm, ds, st, nat, stk, loc, code, hs, rs⟩ := m
 simp only
 have B0 := zA6 w (.cells #[.string nm, .string ds, .bool st, .bool nat, .int .i64 stk, .int .i64 loc, .slice o1 n1 c1, .slice o2 n2 c2, .slice o3 n3 c3] 39)
 by_cases h1 : 0 < n1
 · have h1' : (0 : Int) < n1 := by omega
   rw [decide_eq_true h1]
   go_enter Tryz.func180, Tryz.ntmps180
   go_wp2
   go_ret
   exact ⟨rfl, B0⟩
 have h1' : ¬ (0 : Int) < n1 := by omega
 rw [decide_eq_false h1]
 by_cases h2 : 0 < n2
 · have h2' : (0 : Int) < n2 := by omega
   rw [decide_eq_true h2]
   go_enter Tryz.func180, Tryz.ntmps180
   go_wp2
   go_ret
   exact ⟨rfl, B0⟩
 have h2' : ¬ (0 : Int) < n2 := by omega
 rw [decide_eq_false h2]
 by_cases h3 : 0 < n3
 · have h3' : (0 : Int) < n3 := by omega
   rw [decide_eq_true h3]
   go_enter Tryz.func180, Tryz.ntmps180
   go_wp2
   go_ret
   exact ⟨rfl, B0⟩
 have h3' : ¬ (0 : Int) < n3 := by omega
 rw [decide_eq_false h3]
 by_cases h4 : 0 < stk
 · rw [decide_eq_true h4]
   go_enter Tryz.func180, Tryz.ntmps180
   go_wp2
   go_ret
   exact ⟨rfl, B0⟩
 rw [decide_eq_false h4]
 by_cases h5 : 0 < loc
 · rw [decide_eq_true h5]
   go_enter Tryz.func180, Tryz.ntmps180
   go_wp2
   go_ret
   exact ⟨rfl, B0⟩
 · rw [decide_eq_false h5]
   go_enter Tryz.func180, Tryz.ntmps180
   go_wp2
   go_ret
   exact ⟨rfl, B0⟩
end Go.Proofs.YtpehimfnkmepnaaGreat.Q
