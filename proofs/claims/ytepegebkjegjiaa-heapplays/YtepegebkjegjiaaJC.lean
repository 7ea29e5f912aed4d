/- What is asked of a heap: walked. -/
import Derived.Test.YtepegebkjegjiaaJB
namespace Go.Proofs.Ytepegebkjegjiaa.J
open Go.RowKit Go.MapKept Go.ChangeMaps

variable {n0 : Nat} {w : World} {H : HB} {most : Nat} {l : List Ob} {ss : List (List Bool)}
theorem ret_int {k : IntKind} {a b : Int} (h : a = b) : Ending.returned (.int k a) = .returned (.int k b) := by rw [h]
theorem field_any (ref n : Int) (w : World) (h1 : -1000000 ≤ ref) (h2 : ref ≤ 1000000) (h3 : -1000000 ≤ n) (h4 : n ≤ 1000000) :
    Calls Try.prog 44 #[.int .i64 ref, .int .i64 n] w fun e w' => e = .returned (.int .i64 (ref + 2 + n)) ∧ w' = w := by
  go_enter Try.func44, Try.ntmps44
  go_wp2
  go_ret
  exact ⟨ret_int (by omega), rfl⟩
theorem used_any (h : HeapV n0 w H most l ss) : Calls Try.prog 33 #[H.ptr] w fun e w' => e = .returned (.int .i64 (usedN l)) ∧ w' = w := by
  have c1 : w.cell? ⟨H.hb, 1, none⟩ = some H.wv := h.box.cell 1
  obtain ⟨ao, cap, e⟩ := own_slice h.wo
  rw [e] at c1
  unfold HB.ptr
  go_enter Try.func33, Try.ntmps33
  go_wp2
  go_ret
  exact ⟨rfl, rfl⟩
theorem words_any (h : HeapV n0 w H most l ss) : Calls Try.prog 9 #[H.ptr] w fun e w' => e = .returned (.int .i64 most) ∧ w' = w := by
  have c1 : w.cell? ⟨H.hb, 0, none⟩ = some (.int .i64 (most : Int)) := h.box.cell 0
  unfold HB.ptr
  go_enter Try.func9, Try.ntmps9
  go_wp2
  go_ret
  exact ⟨rfl, rfl⟩

/-- size of an object's words. -/
theorem wsize_any (g U cap j : Nat) (x : Int) (w : World) (hj : j + 2 < U) (hU : U ≤ 16384) (hc : w.cell? ⟨g, j + 1, none⟩ = some (.int .i64 x)) :
    Calls Try.prog 73 #[.slice (some ⟨g, 0, none⟩) U cap, .int .i64 ((j : Int) + 1)] w fun e w' => e = .returned (.int .i64 x) ∧ w' = w := by
  have hj' : (j : Int) + 2 < (U : Int) ∧ (U : Int) ≤ 16384 := by omega
  obtain ⟨hj', hU'⟩ := hj'
  have hj1 : j < U := by omega
  have hj2 : (j : Int) < U := by omega
  try simp only [Nat.add_zero] at hc
  have ht : ((j : Int) + 1).toNat = j + 1 := by omega
  have ht2 : ((j : Int) + 2).toNat = j + 2 := by omega
  go_enter Try.func73, Try.ntmps73
  go_wp2
  go_ret
  exact ⟨rfl, rfl⟩
set_option maxRecDepth 8000 in
theorem asksize_any (h : HeapV n0 w H most l ss) (v z : Int) : Calls Try.prog 70 #[H.ptr, .int .i64 v, .func (.func 73) #[H.wv] #[], .int .i64 z] w fun e w' => e = .returned (.int .i64 (match objZ l v with | some o => (o.f.length : Int) | none => z)) ∧ w' = w := by
  have G := hidIt (is_any h v)
  unfold HB.ptr at G ⊢
  cases e : objZ l v with
  | none =>
    rw [e] at G
    simp only
    clear e
    go_enter Try.func70, Try.ntmps70
    go_wp2_with (go_at_call 43; refine G.out.mono ?_; rintro e w' ⟨rfl, hww⟩; cases hww)
    go_ret
    exact ⟨rfl, rfl⟩
  | some o =>
    rw [e] at G
    simp only
    obtain ⟨g, cap, ew, -, -, h3, -⟩ := h.word e (k := 1) rfl
    obtain ⟨q1, q2⟩ := objZ_in e
    have hm := h.most
    have hf := h.few
    obtain ⟨j, rfl⟩ : ∃ j : Nat, v = (j : Int) + 1 := ⟨(v - 1).toNat, by omega⟩
    rw [show ((j : Int) + 1 - 1).toNat = j by omega] at h3
    have G2 := hidIt (wsize_any g (usedN l) cap j _ w (by omega) (by omega) h3)
    rw [ew]
    clear e h3 q1 q2
    go_enter Try.func70, Try.ntmps70
    go_wp2_with (first | (go_at_call 43; refine G.out.mono ?_; rintro e w' ⟨rfl, hww⟩; cases hww) | (go_at_call 73; refine G2.out.mono ?_; rintro e w' ⟨rfl, hww⟩; cases hww))
    go_ret
    exact ⟨rfl, rfl⟩
set_option maxRecDepth 8000 in
theorem Len_any (h : HeapV n0 w H most l ss) (v : Int) : Calls Try.prog 56 #[H.ptr, .int .i64 v] w fun e w' => e = .returned (.int .i64 (lenZ l v)) ∧ w' = w := by
  have c1 : w.cell? ⟨H.hb, 1, none⟩ = some H.wv := h.box.cell 1
  have G := hidIt (asksize_any h v (0))
  rw [show (match objZ l v with | some o => (o.f.length : Int) | none => 0) = lenZ l v from rfl] at G
  unfold HB.ptr at G ⊢
  generalize lenZ l v = z at *
  obtain ⟨ao, cap, ew⟩ := own_slice h.wo
  rw [ew] at c1 G
  go_enter Try.func56, Try.ntmps56
  go_wp2_with (go_at_call 70; refine G.out.mono ?_; rintro e w' ⟨rfl, hww⟩; cases hww)
  go_ret
  exact ⟨rfl, rfl⟩

/-- shape of an object's words. -/
theorem wshape_any (g U cap j : Nat) (x : Int) (w : World) (hj : j + 2 < U) (hU : U ≤ 16384) (hc : w.cell? ⟨g, j + 0, none⟩ = some (.int .i64 x)) :
    Calls Try.prog 74 #[.slice (some ⟨g, 0, none⟩) U cap, .int .i64 ((j : Int) + 1)] w fun e w' => e = .returned (.int .i64 x) ∧ w' = w := by
  have hj' : (j : Int) + 2 < (U : Int) ∧ (U : Int) ≤ 16384 := by omega
  obtain ⟨hj', hU'⟩ := hj'
  have hj1 : j < U := by omega
  have hj2 : (j : Int) < U := by omega
  try simp only [Nat.add_zero] at hc
  have ht : ((j : Int) + 1).toNat = j + 1 := by omega
  have ht2 : ((j : Int) + 2).toNat = j + 2 := by omega
  go_enter Try.func74, Try.ntmps74
  go_wp2
  go_ret
  exact ⟨rfl, rfl⟩
set_option maxRecDepth 8000 in
theorem askshape_any (h : HeapV n0 w H most l ss) (v z : Int) : Calls Try.prog 70 #[H.ptr, .int .i64 v, .func (.func 74) #[H.wv] #[], .int .i64 z] w fun e w' => e = .returned (.int .i64 (match objZ l v with | some o => o.sh | none => z)) ∧ w' = w := by
  have G := hidIt (is_any h v)
  unfold HB.ptr at G ⊢
  cases e : objZ l v with
  | none =>
    rw [e] at G
    simp only
    clear e
    go_enter Try.func70, Try.ntmps70
    go_wp2_with (go_at_call 43; refine G.out.mono ?_; rintro e w' ⟨rfl, hww⟩; cases hww)
    go_ret
    exact ⟨rfl, rfl⟩
  | some o =>
    rw [e] at G
    simp only
    obtain ⟨g, cap, ew, -, -, h3, -⟩ := h.word e (k := 0) rfl
    obtain ⟨q1, q2⟩ := objZ_in e
    have hm := h.most
    have hf := h.few
    obtain ⟨j, rfl⟩ : ∃ j : Nat, v = (j : Int) + 1 := ⟨(v - 1).toNat, by omega⟩
    rw [show ((j : Int) + 1 - 1).toNat = j by omega] at h3
    have G2 := hidIt (wshape_any g (usedN l) cap j _ w (by omega) (by omega) h3)
    rw [ew]
    clear e h3 q1 q2
    go_enter Try.func70, Try.ntmps70
    go_wp2_with (first | (go_at_call 43; refine G.out.mono ?_; rintro e w' ⟨rfl, hww⟩; cases hww) | (go_at_call 74; refine G2.out.mono ?_; rintro e w' ⟨rfl, hww⟩; cases hww))
    go_ret
    exact ⟨rfl, rfl⟩
set_option maxRecDepth 8000 in
theorem ShapeOf_any (h : HeapV n0 w H most l ss) (v : Int) : Calls Try.prog 58 #[H.ptr, .int .i64 v] w fun e w' => e = .returned (.int .i64 (shpZ l v)) ∧ w' = w := by
  have c1 : w.cell? ⟨H.hb, 1, none⟩ = some H.wv := h.box.cell 1
  have G := hidIt (askshape_any h v (-3))
  rw [show (match objZ l v with | some o => o.sh | none => -3) = shpZ l v from rfl] at G
  unfold HB.ptr at G ⊢
  generalize shpZ l v = z at *
  obtain ⟨ao, cap, ew⟩ := own_slice h.wo
  rw [ew] at c1 G
  go_enter Try.func58, Try.ntmps58
  go_wp2_with (go_at_call 70; refine G.out.mono ?_; rintro e w' ⟨rfl, hww⟩; cases hww)
  go_ret
  exact ⟨rfl, rfl⟩

/-- tag of an object's words. -/
theorem wtag_any (g U cap j : Nat) (x : Int) (w : World) (hj : j + 2 < U) (hU : U ≤ 16384) (hc : w.cell? ⟨g, j + 2, none⟩ = some (.int .i64 x)) :
    Calls Try.prog 71 #[.slice (some ⟨g, 0, none⟩) U cap, .int .i64 ((j : Int) + 1)] w fun e w' => e = .returned (.int .i64 x) ∧ w' = w := by
  have hj' : (j : Int) + 2 < (U : Int) ∧ (U : Int) ≤ 16384 := by omega
  obtain ⟨hj', hU'⟩ := hj'
  have hj1 : j < U := by omega
  have hj2 : (j : Int) < U := by omega
  try simp only [Nat.add_zero] at hc
  have ht : ((j : Int) + 1).toNat = j + 1 := by omega
  have ht2 : ((j : Int) + 2).toNat = j + 2 := by omega
  go_enter Try.func71, Try.ntmps71
  go_wp2
  go_ret
  exact ⟨rfl, rfl⟩
set_option maxRecDepth 8000 in
theorem asktag_any (h : HeapV n0 w H most l ss) (v z : Int) : Calls Try.prog 70 #[H.ptr, .int .i64 v, .func (.func 71) #[H.wv] #[], .int .i64 z] w fun e w' => e = .returned (.int .i64 (match objZ l v with | some o => o.tag | none => z)) ∧ w' = w := by
  have G := hidIt (is_any h v)
  unfold HB.ptr at G ⊢
  cases e : objZ l v with
  | none =>
    rw [e] at G
    simp only
    clear e
    go_enter Try.func70, Try.ntmps70
    go_wp2_with (go_at_call 43; refine G.out.mono ?_; rintro e w' ⟨rfl, hww⟩; cases hww)
    go_ret
    exact ⟨rfl, rfl⟩
  | some o =>
    rw [e] at G
    simp only
    obtain ⟨g, cap, ew, -, -, h3, -⟩ := h.word e (k := 2) rfl
    obtain ⟨q1, q2⟩ := objZ_in e
    have hm := h.most
    have hf := h.few
    obtain ⟨j, rfl⟩ : ∃ j : Nat, v = (j : Int) + 1 := ⟨(v - 1).toNat, by omega⟩
    rw [show ((j : Int) + 1 - 1).toNat = j by omega] at h3
    have G2 := hidIt (wtag_any g (usedN l) cap j _ w (by omega) (by omega) h3)
    rw [ew]
    clear e h3 q1 q2
    go_enter Try.func70, Try.ntmps70
    go_wp2_with (first | (go_at_call 43; refine G.out.mono ?_; rintro e w' ⟨rfl, hww⟩; cases hww) | (go_at_call 71; refine G2.out.mono ?_; rintro e w' ⟨rfl, hww⟩; cases hww))
    go_ret
    exact ⟨rfl, rfl⟩
set_option maxRecDepth 8000 in
theorem Tag_any (h : HeapV n0 w H most l ss) (v : Int) : Calls Try.prog 37 #[H.ptr, .int .i64 v] w fun e w' => e = .returned (.int .i64 (tagZ l v)) ∧ w' = w := by
  have c1 : w.cell? ⟨H.hb, 1, none⟩ = some H.wv := h.box.cell 1
  have G := hidIt (asktag_any h v (0))
  rw [show (match objZ l v with | some o => o.tag | none => 0) = tagZ l v from rfl] at G
  unfold HB.ptr at G ⊢
  generalize tagZ l v = z at *
  obtain ⟨ao, cap, ew⟩ := own_slice h.wo
  rw [ew] at c1 G
  go_enter Try.func37, Try.ntmps37
  go_wp2_with (go_at_call 70; refine G.out.mono ?_; rintro e w' ⟨rfl, hww⟩; cases hww)
  go_ret
  exact ⟨rfl, rfl⟩
end Go.Proofs.Ytepegebkjegjiaa.J

