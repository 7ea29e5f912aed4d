/- What is asked of a heap: walked. -/
import Derived.Test.YtbdeflpjplhafaaJB
namespace Go.Proofs.Ytbdeflpjplhafaa.J
open Go.RowKit Go.MapKept Go.ChangeMaps

variable {n0 : Nat} {w : World} {H : HB} {most : Nat} {l : List Ob} {ss : List (List Bool)}
theorem ret_int {k : IntKind} {a b : Int} (h : a = b) : Ending.returned (.int k a) = .returned (.int k b) := by rw [h]
theorem field_any (ref n : Int) (w : World) (h1 : -1000000 ≤ ref) (h2 : ref ≤ 1000000) (h3 : -1000000 ≤ n) (h4 : n ≤ 1000000) :
    Calls Try.prog 50 #[.int .i64 ref, .int .i64 n] w fun e w' => e = .returned (.int .i64 (ref + 2 + n)) ∧ w' = w := by
  go_enter Try.func50, Try.ntmps50
  go_wp2
  go_ret
  exact ⟨ret_int (by omega), rfl⟩
theorem used_any (h : HeapV n0 w H most l ss) : Calls Try.prog 11 #[H.ptr] w fun e w' => e = .returned (.int .i64 (usedN l)) ∧ w' = w := by
  have c1 : w.cell? ⟨H.hb, 1, none⟩ = some H.wv := h.box.cell 1
  obtain ⟨ao, cap, e⟩ := own_slice h.wo
  rw [e] at c1
  unfold HB.ptr
  go_enter Try.func11, Try.ntmps11
  go_wp2
  go_ret
  exact ⟨rfl, rfl⟩

/-- size of an object's words. -/
theorem wsize_any (g U cap j : Nat) (x : Int) (w : World) (hj : j + 2 < U) (hU : U ≤ 16384) (hc : w.cell? ⟨g, j + 1, none⟩ = some (.int .i64 x)) :
    Calls Try.prog 60 #[.slice (some ⟨g, 0, none⟩) U cap, .int .i64 ((j : Int) + 1)] w fun e w' => e = .returned (.int .i64 x) ∧ w' = w := by
  have hj' : (j : Int) + 2 < (U : Int) ∧ (U : Int) ≤ 16384 := by omega
  obtain ⟨hj', hU'⟩ := hj'
  have hj1 : j < U := by omega
  have hj2 : (j : Int) < U := by omega
  try simp only [Nat.add_zero] at hc
  have ht : ((j : Int) + 1).toNat = j + 1 := by omega
  have ht2 : ((j : Int) + 2).toNat = j + 2 := by omega
  go_enter Try.func60, Try.ntmps60
  go_wp2
  go_ret
  exact ⟨rfl, rfl⟩
set_option maxRecDepth 8000 in
theorem asksize_any (h : HeapV n0 w H most l ss) (v z : Int) : Calls Try.prog 42 #[H.ptr, .int .i64 v, .func (.func 60) #[H.wv] #[], .int .i64 z] w fun e w' => e = .returned (.int .i64 (match objZ l v with | some o => (o.f.length : Int) | none => z)) ∧ w' = w := by
  have G := hidIt (is_any h v)
  unfold HB.ptr at G ⊢
  cases e : objZ l v with
  | none =>
    rw [e] at G
    simp only
    clear e
    go_enter Try.func42, Try.ntmps42
    go_wp2_with (go_at_call 40; refine G.out.mono ?_; rintro e w' ⟨rfl, hww⟩; cases hww)
    go_ret
    exact ⟨rfl, rfl⟩
  | some o =>
    rw [e] at G
    simp only
    obtain ⟨g, cap, ew, -, -, h3, -⟩ := h.word e (k := 1) rfl
    obtain ⟨q1, q2⟩ := objZ_in e
    have hm := h.most
    have hf := h.few
    obtain ⟨j, rfl⟩ : ∃ j : Nat, v = (j : Int) + 1 := ⟨(v - 1).toNat, by omega⟩
    rw [show ((j : Int) + 1 - 1).toNat = j by omega] at h3
    have G2 := hidIt (wsize_any g (usedN l) cap j _ w (by omega) (by omega) h3)
    rw [ew]
    clear e h3 q1 q2
    go_enter Try.func42, Try.ntmps42
    go_wp2_with (first | (go_at_call 40; refine G.out.mono ?_; rintro e w' ⟨rfl, hww⟩; cases hww) | (go_at_call 60; refine G2.out.mono ?_; rintro e w' ⟨rfl, hww⟩; cases hww))
    go_ret
    exact ⟨rfl, rfl⟩
set_option maxRecDepth 8000 in
theorem Len_any (h : HeapV n0 w H most l ss) (v : Int) : Calls Try.prog 35 #[H.ptr, .int .i64 v] w fun e w' => e = .returned (.int .i64 (lenZ l v)) ∧ w' = w := by
  have c1 : w.cell? ⟨H.hb, 1, none⟩ = some H.wv := h.box.cell 1
  have G := hidIt (asksize_any h v (0))
  rw [show (match objZ l v with | some o => (o.f.length : Int) | none => 0) = lenZ l v from rfl] at G
  unfold HB.ptr at G ⊢
  generalize lenZ l v = z at *
  obtain ⟨ao, cap, ew⟩ := own_slice h.wo
  rw [ew] at c1 G
  go_enter Try.func35, Try.ntmps35
  go_wp2_with (go_at_call 42; refine G.out.mono ?_; rintro e w' ⟨rfl, hww⟩; cases hww)
  go_ret
  exact ⟨rfl, rfl⟩

/-- shape of an object's words. -/
theorem wshape_any (g U cap j : Nat) (x : Int) (w : World) (hj : j + 2 < U) (hU : U ≤ 16384) (hc : w.cell? ⟨g, j + 0, none⟩ = some (.int .i64 x)) :
    Calls Try.prog 68 #[.slice (some ⟨g, 0, none⟩) U cap, .int .i64 ((j : Int) + 1)] w fun e w' => e = .returned (.int .i64 x) ∧ w' = w := by
  have hj' : (j : Int) + 2 < (U : Int) ∧ (U : Int) ≤ 16384 := by omega
  obtain ⟨hj', hU'⟩ := hj'
  have hj1 : j < U := by omega
  have hj2 : (j : Int) < U := by omega
  try simp only [Nat.add_zero] at hc
  have ht : ((j : Int) + 1).toNat = j + 1 := by omega
  have ht2 : ((j : Int) + 2).toNat = j + 2 := by omega
  go_enter Try.func68, Try.ntmps68
  go_wp2
  go_ret
  exact ⟨rfl, rfl⟩
set_option maxRecDepth 8000 in
theorem askshape_any (h : HeapV n0 w H most l ss) (v z : Int) : Calls Try.prog 42 #[H.ptr, .int .i64 v, .func (.func 68) #[H.wv] #[], .int .i64 z] w fun e w' => e = .returned (.int .i64 (match objZ l v with | some o => o.sh | none => z)) ∧ w' = w := by
  have G := hidIt (is_any h v)
  unfold HB.ptr at G ⊢
  cases e : objZ l v with
  | none =>
    rw [e] at G
    simp only
    clear e
    go_enter Try.func42, Try.ntmps42
    go_wp2_with (go_at_call 40; refine G.out.mono ?_; rintro e w' ⟨rfl, hww⟩; cases hww)
    go_ret
    exact ⟨rfl, rfl⟩
  | some o =>
    rw [e] at G
    simp only
    obtain ⟨g, cap, ew, -, -, h3, -⟩ := h.word e (k := 0) rfl
    obtain ⟨q1, q2⟩ := objZ_in e
    have hm := h.most
    have hf := h.few
    obtain ⟨j, rfl⟩ : ∃ j : Nat, v = (j : Int) + 1 := ⟨(v - 1).toNat, by omega⟩
    rw [show ((j : Int) + 1 - 1).toNat = j by omega] at h3
    have G2 := hidIt (wshape_any g (usedN l) cap j _ w (by omega) (by omega) h3)
    rw [ew]
    clear e h3 q1 q2
    go_enter Try.func42, Try.ntmps42
    go_wp2_with (first | (go_at_call 40; refine G.out.mono ?_; rintro e w' ⟨rfl, hww⟩; cases hww) | (go_at_call 68; refine G2.out.mono ?_; rintro e w' ⟨rfl, hww⟩; cases hww))
    go_ret
    exact ⟨rfl, rfl⟩
set_option maxRecDepth 8000 in
theorem ShapeOf_any (h : HeapV n0 w H most l ss) (v : Int) : Calls Try.prog 61 #[H.ptr, .int .i64 v] w fun e w' => e = .returned (.int .i64 (shpZ l v)) ∧ w' = w := by
  have c1 : w.cell? ⟨H.hb, 1, none⟩ = some H.wv := h.box.cell 1
  have G := hidIt (askshape_any h v (-3))
  rw [show (match objZ l v with | some o => o.sh | none => -3) = shpZ l v from rfl] at G
  unfold HB.ptr at G ⊢
  generalize shpZ l v = z at *
  obtain ⟨ao, cap, ew⟩ := own_slice h.wo
  rw [ew] at c1 G
  go_enter Try.func61, Try.ntmps61
  go_wp2_with (go_at_call 42; refine G.out.mono ?_; rintro e w' ⟨rfl, hww⟩; cases hww)
  go_ret
  exact ⟨rfl, rfl⟩

/-- tag of an object's words. -/
theorem wtag_any (g U cap j : Nat) (x : Int) (w : World) (hj : j + 2 < U) (hU : U ≤ 16384) (hc : w.cell? ⟨g, j + 2, none⟩ = some (.int .i64 x)) :
    Calls Try.prog 43 #[.slice (some ⟨g, 0, none⟩) U cap, .int .i64 ((j : Int) + 1)] w fun e w' => e = .returned (.int .i64 x) ∧ w' = w := by
  have hj' : (j : Int) + 2 < (U : Int) ∧ (U : Int) ≤ 16384 := by omega
  obtain ⟨hj', hU'⟩ := hj'
  have hj1 : j < U := by omega
  have hj2 : (j : Int) < U := by omega
  try simp only [Nat.add_zero] at hc
  have ht : ((j : Int) + 1).toNat = j + 1 := by omega
  have ht2 : ((j : Int) + 2).toNat = j + 2 := by omega
  go_enter Try.func43, Try.ntmps43
  go_wp2
  go_ret
  exact ⟨rfl, rfl⟩
set_option maxRecDepth 8000 in
theorem asktag_any (h : HeapV n0 w H most l ss) (v z : Int) : Calls Try.prog 42 #[H.ptr, .int .i64 v, .func (.func 43) #[H.wv] #[], .int .i64 z] w fun e w' => e = .returned (.int .i64 (match objZ l v with | some o => o.tag | none => z)) ∧ w' = w := by
  have G := hidIt (is_any h v)
  unfold HB.ptr at G ⊢
  cases e : objZ l v with
  | none =>
    rw [e] at G
    simp only
    clear e
    go_enter Try.func42, Try.ntmps42
    go_wp2_with (go_at_call 40; refine G.out.mono ?_; rintro e w' ⟨rfl, hww⟩; cases hww)
    go_ret
    exact ⟨rfl, rfl⟩
  | some o =>
    rw [e] at G
    simp only
    obtain ⟨g, cap, ew, -, -, h3, -⟩ := h.word e (k := 2) rfl
    obtain ⟨q1, q2⟩ := objZ_in e
    have hm := h.most
    have hf := h.few
    obtain ⟨j, rfl⟩ : ∃ j : Nat, v = (j : Int) + 1 := ⟨(v - 1).toNat, by omega⟩
    rw [show ((j : Int) + 1 - 1).toNat = j by omega] at h3
    have G2 := hidIt (wtag_any g (usedN l) cap j _ w (by omega) (by omega) h3)
    rw [ew]
    clear e h3 q1 q2
    go_enter Try.func42, Try.ntmps42
    go_wp2_with (first | (go_at_call 40; refine G.out.mono ?_; rintro e w' ⟨rfl, hww⟩; cases hww) | (go_at_call 43; refine G2.out.mono ?_; rintro e w' ⟨rfl, hww⟩; cases hww))
    go_ret
    exact ⟨rfl, rfl⟩
set_option maxRecDepth 8000 in
theorem Tag_any (h : HeapV n0 w H most l ss) (v : Int) : Calls Try.prog 17 #[H.ptr, .int .i64 v] w fun e w' => e = .returned (.int .i64 (tagZ l v)) ∧ w' = w := by
  have c1 : w.cell? ⟨H.hb, 1, none⟩ = some H.wv := h.box.cell 1
  have G := hidIt (asktag_any h v (0))
  rw [show (match objZ l v with | some o => o.tag | none => 0) = tagZ l v from rfl] at G
  unfold HB.ptr at G ⊢
  generalize tagZ l v = z at *
  obtain ⟨ao, cap, ew⟩ := own_slice h.wo
  rw [ew] at c1 G
  go_enter Try.func17, Try.ntmps17
  go_wp2_with (go_at_call 42; refine G.out.mono ?_; rintro e w' ⟨rfl, hww⟩; cases hww)
  go_ret
  exact ⟨rfl, rfl⟩
end Go.Proofs.Ytbdeflpjplhafaa.J

