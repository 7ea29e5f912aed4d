/- Loaders at a place; known. -/
import Derived.Test.YtacmooknfbjpeaaLIn
namespace Go.Proofs.Ytacmooknfbjpeaa.J
open Go.RowKit Go.MapKept Go.ChangeMaps
set_option linter.unusedVariables false
variable {n0 : Nat} {w : World} {H : LB} {S : Ls}

/-- What a call of the loaders keeps: all below n0, and rows of other types. -/
structure LStp (n0 : Nat) (w w' : World) : Prop where
  below : Below n0 w w'
  keep : ∀ (b : Nat) (row : Array Value) (t : TypeId) (fz : Nat × Nat), t ≠ 56 → t ≠ 64 → t ≠ 3 → w.heap[b]? = some (.cells row t fz) → w'.heap[b]? = w.heap[b]?
theorem LStp.refl (n0 : Nat) (w : World) : LStp n0 w w := ⟨Below.refl _ _, fun _ _ _ _ _ _ _ _ => rfl⟩
theorem LStp.trans {n0 : Nat} {u v w : World} (h : LStp n0 u v) (k : LStp n0 v w) : LStp n0 u w := ⟨h.below.trans k.below, fun b row t fz h1 h2 h3 e => (k.keep b row t fz h1 h2 h3 ((h.keep b row t fz h1 h2 h3 e).trans e)).trans (h.keep b row t fz h1 h2 h3 e)⟩
def LAt (n0 b : Nat) (w : World) (S : Ls) : Prop := ∃ H, LoV n0 w H S ∧ H.hb = b
theorem LAt.lo {b : Nat} (h : LAt n0 b w S) : n0 ≤ w.heap.size := by
  obtain ⟨H, h, -⟩ := h
  have := h.lt (.inl rfl)
  omega
theorem LoV.other (h : LoV n0 w H S) {b : Nat} {row : Array Value} {t : TypeId} {fz : Nat × Nat} (h1 : t ≠ 56) (h2 : t ≠ 64) (h3 : t ≠ 3) (e : w.heap[b]? = some (.cells row t fz)) : ¬ H.has b := by
  rintro (rfl | e2 | ⟨k, hk, rfl⟩ | ⟨k, hk, rfl⟩)
  · have := h.box
    unfold Blk at this
    rw [e] at this
    cases this
    exact h1 rfl
  · obtain ⟨c, fz', h'⟩ := Lib.ownsRow_kind h.eo b e2
    rw [e] at h'
    cases h'
    exact h2 rfl
  · rw [h.nm] at hk
    obtain ⟨es, cl, hm, _⟩ := (h.maps k hk).2
    rw [e] at hm
    cases hm
  · rw [h.np] at hk
    obtain ⟨_, L, _, c⟩ := h.prs k _ (List.getElem?_eq_getElem hk)
    unfold Blk at c
    rw [e] at c
    cases c
    exact h3 rfl
theorem LStep.stp {H' : LB} {w' : World} (h : LoV n0 w H S) (s : LStep H H' w w') : LStp n0 w w' :=
  ⟨s.below (by have := h.lt (.inl rfl); omega) fun b e => (h.lt e).1, fun b row t fz h1 h2 h3 e => s.block b (Array.getElem?_eq_some_iff.1 e).1 (h.other h1 h2 h3 e)⟩
theorem AddQ.at_ {w' : World} {S' : Ls} (h : LoV n0 w H S) (q : AddQ n0 w H S' w') : LAt n0 H.hb w' S' ∧ LStp n0 w w' := by
  obtain ⟨H', a, s⟩ := q
  exact ⟨⟨H', a, s.hb⟩, s.stp h⟩
theorem LAt.below {b : Nat} {w' : World} (h : LAt n0 b w S) (hb : Below w.heap.size w w') : LAt n0 b w' S := by
  obtain ⟨H, h, e⟩ := h
  exact ⟨H, h.below hb, e⟩
theorem at_new (w : World) : Calls Try.prog 8 #[] w fun e w' => ∃ b, e = .returned (.pointer (some ⟨b, 0, none⟩)) ∧ LAt w.heap.size b w' (Ls.empty.add (-1)) ∧ Below w.heap.size w w' :=
  (New_any w).mono fun e w' ⟨H, a, b, c⟩ => ⟨H.hb, a, ⟨H, b, rfl⟩, c⟩
theorem at_child {b : Nat} (h : LAt n0 b w S) (p : Int) : Calls Try.prog 9 #[.pointer (some ⟨b, 0, none⟩), .int .i64 p] w fun e w' => e = .returned (.tuple #[.int .i64 (S.child p).2.1, .int .i64 (S.child p).2.2]) ∧ LAt n0 b w' (S.child p).1 ∧ LStp n0 w w' := by
  obtain ⟨H, h, rfl⟩ := h
  exact (Child_any h p).mono fun e w' ⟨a, q⟩ => ⟨a, q.at_ h⟩
theorem at_offer {b : Nat} (h : LAt n0 b w S) (n : Int) (nm sp : ByteArray) (id : Int) : Calls Try.prog 11 #[.pointer (some ⟨b, 0, none⟩), .int .i64 n, .string nm, .string sp, .int .i64 id] w fun e w' => e = .returned (.int .i64 (S.offer n nm sp id).2) ∧ LAt n0 b w' (S.offer n nm sp id).1 ∧ LStp n0 w w' := by
  obtain ⟨H, h, rfl⟩ := h
  exact (Offer_any h n nm sp id).mono fun e w' ⟨a, q⟩ => ⟨a, q.at_ h⟩
theorem at_agree {b : Nat} (h : LAt n0 b w S) (x y : Int) (nm : ByteArray) : Calls Try.prog 10 #[.pointer (some ⟨b, 0, none⟩), .int .i64 x, .int .i64 y, .string nm] w fun e w' => e = .returned (.int .i64 (S.agree x y nm).2) ∧ LAt n0 b w' (S.agree x y nm).1 ∧ LStp n0 w w' := by
  obtain ⟨H, h, rfl⟩ := h
  exact (Agree_any h x y nm).mono fun e w' ⟨a, q⟩ => ⟨a, q.at_ h⟩
theorem at_load {b : Nat} (h : LAt n0 b w S) (n : Int) (nm : ByteArray) {r : Ls × Int × Int × Int} (hr : S.loadR n nm = some r) : Calls Try.prog 12 #[.pointer (some ⟨b, 0, none⟩), .int .i64 n, .string nm] w fun e w' => e = .returned (.tuple #[.int .i64 r.2.1, .int .i64 r.2.2.1, .int .i64 r.2.2.2]) ∧ LAt n0 b w' r.1 ∧ LStp n0 w w' := by
  obtain ⟨H, h, rfl⟩ := h
  exact (Load_any h n nm hr).mono fun e w' ⟨a, q⟩ => ⟨a, q.at_ h⟩
theorem at_loaded {b : Nat} (h : LAt n0 b w S) (n : Int) (nm : ByteArray) : Calls Try.prog 13 #[.pointer (some ⟨b, 0, none⟩), .int .i64 n, .string nm] w fun e w' => e = .returned (.tuple #[.int .i64 ((S.ldd n nm).getD (0, 0)).1, .bool (S.ldd n nm).isSome]) ∧ LAt n0 b w' S ∧ Below w.heap.size w w' := by
  obtain ⟨H, h, rfl⟩ := h
  exact (Loaded_any h n nm).mono fun e w' ⟨a, q⟩ => ⟨a, ⟨H, h.below q, rfl⟩, q⟩

theorem at_load4 {b : Nat} (h : LAt n0 b w S) {n : Int} {nm : ByteArray} {S' : Ls} {i d er : Int} (hr : S.loadR n nm = some (S', i, d, er)) : Calls Try.prog 12 #[.pointer (some ⟨b, 0, none⟩), .int .i64 n, .string nm] w fun e w' => e = .returned (.tuple #[.int .i64 i, .int .i64 d, .int .i64 er]) ∧ LAt n0 b w' S' ∧ LStp n0 w w' := at_load h n nm hr
theorem at_child3 {b : Nat} (h : LAt n0 b w S) {p : Int} {S' : Ls} {n er : Int} (hr : S.child p = (S', n, er)) : Calls Try.prog 9 #[.pointer (some ⟨b, 0, none⟩), .int .i64 p] w fun e w' => e = .returned (.tuple #[.int .i64 n, .int .i64 er]) ∧ LAt n0 b w' S' ∧ LStp n0 w w' := by
  have := at_child h p
  rwa [hr] at this
theorem at_offer2 {b : Nat} (h : LAt n0 b w S) {n : Int} {nm sp : ByteArray} {id : Int} {S' : Ls} {er : Int} (hr : S.offer n nm sp id = (S', er)) : Calls Try.prog 11 #[.pointer (some ⟨b, 0, none⟩), .int .i64 n, .string nm, .string sp, .int .i64 id] w fun e w' => e = .returned (.int .i64 er) ∧ LAt n0 b w' S' ∧ LStp n0 w w' := by
  have := at_offer h n nm sp id
  rwa [hr] at this
theorem at_agree2 {b : Nat} (h : LAt n0 b w S) {x y : Int} {nm : ByteArray} {S' : Ls} {er : Int} (hr : S.agree x y nm = (S', er)) : Calls Try.prog 10 #[.pointer (some ⟨b, 0, none⟩), .int .i64 x, .int .i64 y, .string nm] w fun e w' => e = .returned (.int .i64 er) ∧ LAt n0 b w' S' ∧ LStp n0 w w' := by
  have := at_agree h x y nm
  rwa [hr] at this
theorem at_loaded2 {b : Nat} (h : LAt n0 b w S) {n : Int} {nm : ByteArray} {o : Option (Int × Int)} (hr : S.ldd n nm = o) : Calls Try.prog 13 #[.pointer (some ⟨b, 0, none⟩), .int .i64 n, .string nm] w fun e w' => e = .returned (.tuple #[.int .i64 (o.getD (0, 0)).1, .bool o.isSome]) ∧ LAt n0 b w' S ∧ Below w.heap.size w w' := by
  have := at_loaded h n nm
  rwa [hr] at this
/-! known. -/
def kA : ByteArray := ⟨#[65]⟩
def kB : ByteArray := ⟨#[66]⟩
def kC : ByteArray := ⟨#[67]⟩
def kS0 : Ls := Ls.empty.add (-1)
def kS1 : Ls := (kS0.offer 0 kA kB 1).1
def kS2 : Ls := (kS1.offer 0 kB kA 2).1
def kS3 : Ls := (kS2.child 0).1
def kS4 : Ls := (kS3.offer 1 kC ⟨#[]⟩ 5).1
def kS5 : Ls := ((kS4.loadR 1 kC).map (·.1)).getD kS4
theorem kr1 : kS0.offer 0 ⟨#[65]⟩ ⟨#[66]⟩ 1 = (kS1, 0) := by kernel_rfl
theorem kr2 : kS1.offer 0 ⟨#[66]⟩ ⟨#[65]⟩ 2 = (kS2, 0) := by kernel_rfl
theorem kr3 : kS2.loadR 0 ⟨#[65]⟩ = some (kS2, 0, 0, 24) := by kernel_rfl
theorem kr4 : kS2.child 0 = (kS3, 1, 0) := by kernel_rfl
theorem kr5 : kS3.offer 1 ⟨#[67]⟩ ⟨#[]⟩ 5 = (kS4, 0) := by kernel_rfl
theorem kr6 : kS4.loadR 1 ⟨#[67]⟩ = some (kS5, 5, 1, 0) := by kernel_rfl
theorem kr7 : kS5.loadR 0 ⟨#[67]⟩ = some (kS5, 0, 0, 22) := by kernel_rfl
set_option maxRecDepth 8000 in
set_option maxHeartbeats 4000000 in
theorem known_any (w : World) : Calls Try.prog 14 #[] w fun e w' => e = .returned (.bool true) ∧ Below w.heap.size w w' := by
  go_enter Try.func14, Try.ntmps14
  go_wp2_with (first
    | (go_at_call 8; refine (at_new _).mono ?_; rintro e w1 ⟨b, rfl, a, hb⟩; have A0 := hidIt (show LAt _ b w1 kS0 from a); have B0 := hidIt hb; clear a hb)
    | (go_at_call 11; refine (at_offer2 A0.out kr1).mono ?_; rintro e w2 ⟨rfl, a, s⟩; have A1 := hidIt a; have B1 := hidIt (B0.out.trans s.below); clear a s A0 B0)
    | (go_at_call 11; refine (at_offer2 A1.out kr2).mono ?_; rintro e w3 ⟨rfl, a, s⟩; have A2 := hidIt a; have B2 := hidIt (B1.out.trans s.below); clear a s A1 B1)
    | (go_at_call 12; refine (at_load4 A2.out kr3).mono ?_; rintro e w4 ⟨rfl, a, s⟩; have A3 := hidIt a; have B3 := hidIt (B2.out.trans s.below); clear a s A2 B2)
    | (go_at_call 9; refine (at_child3 A3.out kr4).mono ?_; rintro e w5 ⟨rfl, a, s⟩; have A4 := hidIt a; have B4 := hidIt (B3.out.trans s.below); clear a s A3 B3)
    | (go_at_call 11; refine (at_offer2 A4.out kr5).mono ?_; rintro e w6 ⟨rfl, a, s⟩; have A5 := hidIt a; have B5 := hidIt (B4.out.trans s.below); clear a s A4 B4)
    | (go_at_call 12; refine (at_load4 A5.out kr6).mono ?_; rintro e w7 ⟨rfl, a, s⟩; have A6 := hidIt a; have B6 := hidIt (B5.out.trans s.below); clear a s A5 B5)
    | (go_at_call 12; refine (at_load4 A6.out kr7).mono ?_; rintro e w8 ⟨rfl, a, s⟩; have A7 := hidIt a; have B7 := hidIt (B6.out.trans s.below); clear a s A6 B6))
  go_ret
  exact ⟨rfl, B7.out⟩
end Go.Proofs.Ytacmooknfbjpeaa.J
