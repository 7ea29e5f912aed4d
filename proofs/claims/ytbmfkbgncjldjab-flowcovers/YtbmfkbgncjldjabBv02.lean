/- Texts Z Nm RB RZ FB HNa. -/
import Derived.Test.YtbmfkbgncjldjabBv01
import Derived.Laws.Tables
import Derived.Great.Walk
import Derived.Deep.Cut
import Derived.Deep.MidRow
import Derived.WalkMore
import Derived.Test.YtbmfkbgncjldjabProg
namespace Go.Proofs.Ytbmfkbgncjldjab
open Go.RowKit
set_option maxRecDepth 8000 in
set_option maxHeartbeats 4000000 in
theorem size_any (op : Int) (w : World) : Calls Try.prog 47 #[.int .i64 op] w fun e w' => e = .returned (.int .i64 (sz op : Nat)) ∧ w' = w := by
  go_enter Try.func47, Try.ntmps47
  go_wp2
  all_goals go_ret
  all_goals refine ⟨ret_int ?_, rfl⟩
  all_goals first
    | (have h := LawfulBEq.eq_of_beq ‹(op == _) = true›; subst h; rfl)
    | (rw [(sz_zero op).2 (kd_none op (by simp_all) )]; rfl)
set_option maxRecDepth 8000 in
set_option maxHeartbeats 1000000 in
theorem branch_any (op : Int) (w : World) : Calls Try.prog 34 #[.int .i64 op] w fun e w' => e = .returned (.bool (decide (kd op = 6))) ∧ w' = w := by
  have hk := kd_six op
  by_cases h1 : 153 ≤ op
  · by_cases h2 : op ≤ 167
    · rw [decide_eq_true (hk.2 (by omega))]
      clear hk
      go_enter Try.func34, Try.ntmps34
      go_wp2
      go_ret
      exact ⟨rfl, rfl⟩
    · by_cases h3 : op = 198
      · subst h3
        rw [decide_eq_true (hk.2 (by omega))]
        clear hk
        go_enter Try.func34, Try.ntmps34
        go_wp2
        go_ret
        exact ⟨rfl, rfl⟩
      · by_cases h4 : op = 199
        · subst h4
          rw [decide_eq_true (hk.2 (by omega))]
          clear hk
          go_enter Try.func34, Try.ntmps34
          go_wp2
          go_ret
          exact ⟨rfl, rfl⟩
        · rw [decide_eq_false (fun h => by have := hk.1 h; omega)]
          clear hk
          have h3' : (op == 198) = false := by simpa using h3
          have h4' : (op == 199) = false := by simpa using h4
          go_enter Try.func34, Try.ntmps34
          go_wp2
          go_ret
          exact ⟨rfl, rfl⟩
  · rw [decide_eq_false (fun h => by have := hk.1 h; omega)]
    clear hk
    have h3' : (op == 198) = false := by simp; omega
    have h4' : (op == 199) = false := by simp; omega
    go_enter Try.func34, Try.ntmps34
    go_wp2
    go_ret
    exact ⟨rfl, rfl⟩
set_option maxRecDepth 8000 in
set_option maxHeartbeats 1000000 in
theorem ends_any (op : Int) (w : World) : Calls Try.prog 20 #[.int .i64 op] w fun e w' => e = .returned (.bool (endsB op)) ∧ w' = w := by
  have HE : Hid (endsB op = (op == 167 || (op == 172 || (op == 176 || (op == 177 || op == 191))))) := by show _ = _; unfold endsB; rfl
  generalize endsB op = r at *
  go_enter Try.func20, Try.ntmps20
  go_wp2
  all_goals go_ret
  all_goals refine ⟨?_, rfl⟩
  all_goals rw [HE.out]; simp_all
end Go.Proofs.Ytbmfkbgncjldjab
namespace Go.Proofs.Ytbmfkbgncjldjab
open Go.RowKit
def names5 : List (Int × ByteArray) := [(0, ⟨#[110, 111, 112]⟩), (1, ⟨#[110, 117, 108, 108]⟩), (2, ⟨#[99, 111, 110, 115, 116, 109, 49]⟩), (3, ⟨#[99, 111, 110, 115, 116, 48]⟩), (4, ⟨#[99, 111, 110, 115, 116, 49]⟩), (5, ⟨#[99, 111, 110, 115, 116, 50]⟩), (6, ⟨#[99, 111, 110, 115, 116, 51]⟩), (7, ⟨#[99, 111, 110, 115, 116, 52]⟩), (8, ⟨#[99, 111, 110, 115, 116, 53]⟩), (16, ⟨#[112, 117, 115, 104, 49]⟩), (17, ⟨#[112, 117, 115, 104, 50]⟩), (18, ⟨#[108, 100, 99]⟩), (21, ⟨#[105, 108, 111, 97, 100]⟩), (25, ⟨#[97, 108, 111, 97, 100]⟩), (46, ⟨#[105, 97, 108, 111, 97, 100]⟩), (50, ⟨#[97, 97, 108, 111, 97, 100]⟩), (54, ⟨#[105, 115, 116, 111, 114, 101]⟩), (58, ⟨#[97, 115, 116, 111, 114, 101]⟩), (79, ⟨#[105, 97, 115, 116, 111, 114, 101]⟩), (83, ⟨#[97, 97, 115, 116, 111, 114, 101]⟩), (87, ⟨#[112, 111, 112]⟩), (89, ⟨#[100, 117, 112]⟩), (95, ⟨#[115, 119, 97, 112]⟩), (96, ⟨#[97, 100, 100]⟩), (100, ⟨#[115, 117, 98]⟩), (104, ⟨#[109, 117, 108]⟩), (108, ⟨#[100, 105, 118]⟩), (112, ⟨#[114, 101, 109]⟩), (116, ⟨#[110, 101, 103]⟩), (120, ⟨#[115, 104, 108]⟩), (122, ⟨#[115, 104, 114]⟩), (124, ⟨#[117, 115, 104, 114]⟩), (126, ⟨#[97, 110, 100]⟩), (128, ⟨#[111, 114]⟩), (130, ⟨#[120, 111, 114]⟩), (132, ⟨#[105, 110, 99]⟩), (153, ⟨#[105, 102, 101, 113]⟩), (154, ⟨#[105, 102, 110, 101]⟩), (155, ⟨#[105, 102, 108, 116]⟩), (156, ⟨#[105, 102, 103, 101]⟩), (157, ⟨#[105, 102, 103, 116]⟩), (158, ⟨#[105, 102, 108, 101]⟩), (159, ⟨#[99, 109, 112, 101, 113]⟩), (160, ⟨#[99, 109, 112, 110, 101]⟩), (161, ⟨#[99, 109, 112, 108, 116]⟩), (162, ⟨#[99, 109, 112, 103, 101]⟩), (163, ⟨#[99, 109, 112, 103, 116]⟩), (164, ⟨#[99, 109, 112, 108, 101]⟩), (165, ⟨#[114, 101, 102, 101, 113]⟩), (166, ⟨#[114, 101, 102, 110, 101]⟩), (167, ⟨#[103, 111, 116, 111]⟩), (172, ⟨#[105, 114, 101, 116, 117, 114, 110]⟩), (176, ⟨#[97, 114, 101, 116, 117, 114, 110]⟩), (177, ⟨#[114, 101, 116, 117, 114, 110]⟩), (178, ⟨#[103, 101, 116, 115, 116, 97, 116, 105, 99]⟩), (179, ⟨#[112, 117, 116, 115, 116, 97, 116, 105, 99]⟩), (180, ⟨#[103, 101, 116, 102, 105, 101, 108, 100]⟩), (181, ⟨#[112, 117, 116, 102, 105, 101, 108, 100]⟩), (182, ⟨#[118, 105, 114, 116, 117, 97, 108]⟩), (184, ⟨#[115, 116, 97, 116, 105, 99]⟩), (187, ⟨#[110, 101, 119]⟩), (188, ⟨#[110, 101, 119, 105, 110, 116, 115]⟩), (189, ⟨#[110, 101, 119, 114, 101, 102, 115]⟩), (190, ⟨#[108, 101, 110, 103, 116, 104]⟩), (191, ⟨#[116, 104, 114, 111, 119]⟩), (192, ⟨#[99, 97, 115, 116]⟩), (193, ⟨#[105, 115, 97]⟩), (194, ⟨#[101, 110, 116, 101, 114]⟩), (195, ⟨#[101, 120, 105, 116]⟩), (198, ⟨#[105, 102, 110, 117, 108, 108]⟩), (199, ⟨#[105, 102, 115, 111, 109, 101]⟩)]
def nameO (op : Int) : ByteArray := match names5.find? (fun p => p.1 == op) with | some p => p.2 | none => ⟨#[]⟩
theorem find_no {op : Int} (hn : ∀ q ∈ names5, q.1 ≠ op) : nameO op = ⟨#[]⟩ := by
  unfold nameO
  rw [List.find?_eq_none.2 (fun q hq => by simpa using hn q hq)]
end Go.Proofs.Ytbmfkbgncjldjab
namespace Go.Proofs.Ytbmfkbgncjldjab
open Go.RowKit
set_option maxRecDepth 8000 in
set_option maxHeartbeats 1000000 in
theorem rbranch (op : Int) (w : World) : Calls Try.prog 8 #[.int .i64 op] w fun e w' => e = .returned (.bool (decide (kd op = 6))) ∧ w' = w := by
  have hk := kd_six op
  by_cases h1 : 153 ≤ op
  · by_cases h2 : op ≤ 167
    · rw [decide_eq_true (hk.2 (by omega))]
      clear hk
      go_enter Try.func8, Try.ntmps8
      go_wp2
      go_ret
      exact ⟨rfl, rfl⟩
    · by_cases h3 : op = 198
      · subst h3
        rw [decide_eq_true (hk.2 (by omega))]
        clear hk
        go_enter Try.func8, Try.ntmps8
        go_wp2
        go_ret
        exact ⟨rfl, rfl⟩
      · by_cases h4 : op = 199
        · subst h4
          rw [decide_eq_true (hk.2 (by omega))]
          clear hk
          go_enter Try.func8, Try.ntmps8
          go_wp2
          go_ret
          exact ⟨rfl, rfl⟩
        · rw [decide_eq_false (fun h => by have := hk.1 h; omega)]
          clear hk
          have h3' : (op == 198) = false := by simpa using h3
          have h4' : (op == 199) = false := by simpa using h4
          go_enter Try.func8, Try.ntmps8
          go_wp2
          go_ret
          exact ⟨rfl, rfl⟩
  · rw [decide_eq_false (fun h => by have := hk.1 h; omega)]
    clear hk
    have h3' : (op == 198) = false := by simp; omega
    have h4' : (op == 199) = false := by simp; omega
    go_enter Try.func8, Try.ntmps8
    go_wp2
    go_ret
    exact ⟨rfl, rfl⟩
theorem r5_alloc (w : World) (o : Obj) : Below w.heap.size w (w.alloc o) := (Below.refl _ _).alloc (Nat.le_refl _) o
theorem r5_get {α : Type} (row : α → List Value) (k : Nat) (hk : ∀ x, (row x).length = k) : ∀ (l : List α) (j : Nat) (x : α) (i : Nat), l[j]? = some x → i < k → (l.flatMap row)[j * k + i]? = (row x)[i]? := by
  intro l
  induction l with
  | nil => intro j x i h; simp at h
  | cons y l ih =>
    intro j x i h hi
    rw [List.flatMap_cons]
    cases j with
    | zero =>
      simp at h; subst h
      rw [Nat.zero_mul, Nat.zero_add, List.getElem?_append_left (by rw [hk]; exact hi)]
    | succ j =>
      simp at h
      rw [List.getElem?_append_right (by rw [hk, Nat.succ_mul]; omega), hk, show (j + 1) * k + i - k = j * k + i by rw [Nat.succ_mul]; omega]
      exact ih j x i h hi
theorem r5_cell {w : World} {b : Nat} {cs : Array Value} {T : TypeId} (h : w.heap[b]? = some (.cells cs T (0, 0))) (j : Nat) {v : Value} (hv : cs[j]? = some v) : w.cell? ⟨b, j, none⟩ = some v := by
  rw [cell_of_row w b j _ T (0, 0) h]; exact hv
def in5 (n lo hi : Int) : Bool := decide (lo ≤ n) && decide (n ≤ hi)
set_option maxRecDepth 8000 in
set_option maxHeartbeats 1000000 in
theorem rin (n lo hi : Int) (w : World) : Calls Try.prog 89 #[.int .i64 n, .int .i64 lo, .int .i64 hi] w fun e w' => e = .returned (.bool (in5 n lo hi)) ∧ w' = w := by
  unfold in5
  by_cases h1 : lo ≤ n
  · by_cases h2 : n ≤ hi <;>
    · go_enter Try.func89, Try.ntmps89
      go_wp2
      go_ret
      exact ⟨by simp [h1, h2], rfl⟩
  · go_enter Try.func89, Try.ntmps89
    go_wp2
    go_ret
    exact ⟨by rw [decide_eq_false (show ¬ lo ≤ n by omega)]; rfl, rfl⟩
def sg5 (op : Int) : Bool := decide (kd op = 3) || (decide (kd op = 5) || decide (kd op = 6))
set_option maxRecDepth 8000 in
set_option maxHeartbeats 1000000 in
theorem rsigned (op : Int) (w : World) : Calls Try.prog 31 #[.int .i64 op] w fun e w' => e = .returned (.bool (sg5 op)) ∧ w' = w := by
  have gB := hidIt (rbranch op w)
  have h3 := kd_three op
  have h5 := kd_five op
  unfold sg5
  by_cases e1 : op = 16
  · rw [decide_eq_true (h3.2 e1)]
    subst e1
    clear gB h3 h5
    go_enter Try.func31, Try.ntmps31
    go_wp2
    go_ret
    exact ⟨rfl, rfl⟩
  · rw [decide_eq_false (fun h => e1 (h3.1 h))]
    have e1' : (op == 16) = false := by simpa using e1
    by_cases e2 : op = 17
    · rw [decide_eq_true (h5.2 e2)]
      subst e2
      clear gB h3 h5
      go_enter Try.func31, Try.ntmps31
      go_wp2
      go_ret
      exact ⟨rfl, rfl⟩
    · rw [decide_eq_false (fun h => e2 (h5.1 h))]
      have e2' : (op == 17) = false := by simpa using e2
      clear h3 h5
      generalize decide (kd op = 6) = q at *
      go_enter Try.func31, Try.ntmps31
      go_wp2_with fail
      refine gB.out.mono ?_
      rintro e w' ⟨rfl, hww⟩; cases hww
      go_wp2
      go_ret
      exact ⟨by cases q <;> rfl, rfl⟩
def nrow (p : Int × ByteArray) : List Value := [.int .i64 p.1, .string p.2]
theorem nrow_len (p : Int × ByteArray) : (nrow p).length = 2 := rfl
theorem names_len : names5.length = 71 := by rfl
theorem find_at {op : Int} {j : Nat} {p : Int × ByteArray} (hp : names5[j]? = some p) (h : p.1 = op) (hn : ∀ q ∈ names5.take j, q.1 ≠ op) : nameO op = p.2 := by
  unfold nameO
  have e : names5.find? (fun p => p.1 == op) = some p := by
    rw [← List.take_append_drop j names5, List.find?_append]
    have h1 : (names5.take j).find? (fun p => p.1 == op) = none := List.find?_eq_none.2 (fun q hq => by simpa using hn q hq)
    obtain ⟨hj, rfl⟩ := List.getElem?_eq_some_iff.1 hp
    rw [h1, List.drop_eq_getElem_cons hj, List.find?_cons_of_pos (by simpa using h)]
    rfl
  rw [e]
def tab5 : Obj := .cells (names5.flatMap nrow).toArray 114
theorem tab_cell {w : World} {g : Nat} (hg : w.heap[g]? = some tab5) {j : Nat} {p : Int × ByteArray} (hp : names5[j]? = some p) : w.cell? ⟨g, j * 2, none⟩ = some (.int .i64 p.1) ∧ w.cell? ⟨g, j * 2 + 1, none⟩ = some (.string p.2) := by
  have h0 := r5_get nrow 2 nrow_len names5 j p 0 hp (by decide)
  have h1 := r5_get nrow 2 nrow_len names5 j p 1 hp (by decide)
  unfold tab5 at hg
  exact ⟨r5_cell hg (j * 2 + 0) (by simpa [nrow] using h0), r5_cell hg (j * 2 + 1) (by simpa [nrow] using h1)⟩
def parts5 : Array (Nat × Value) := #[(0, .agg #[.int .i64 0, .string ⟨#[110, 111, 112]⟩]), (1, .agg #[.int .i64 1, .string ⟨#[110, 117, 108, 108]⟩]), (2, .agg #[.int .i64 2, .string ⟨#[99, 111, 110, 115, 116, 109, 49]⟩]), (3, .agg #[.int .i64 3, .string ⟨#[99, 111, 110, 115, 116, 48]⟩]), (4, .agg #[.int .i64 4, .string ⟨#[99, 111, 110, 115, 116, 49]⟩]), (5, .agg #[.int .i64 5, .string ⟨#[99, 111, 110, 115, 116, 50]⟩]), (6, .agg #[.int .i64 6, .string ⟨#[99, 111, 110, 115, 116, 51]⟩]), (7, .agg #[.int .i64 7, .string ⟨#[99, 111, 110, 115, 116, 52]⟩]), (8, .agg #[.int .i64 8, .string ⟨#[99, 111, 110, 115, 116, 53]⟩]), (9, .agg #[.int .i64 16, .string ⟨#[112, 117, 115, 104, 49]⟩]), (10, .agg #[.int .i64 17, .string ⟨#[112, 117, 115, 104, 50]⟩]), (11, .agg #[.int .i64 18, .string ⟨#[108, 100, 99]⟩]), (12, .agg #[.int .i64 21, .string ⟨#[105, 108, 111, 97, 100]⟩]), (13, .agg #[.int .i64 25, .string ⟨#[97, 108, 111, 97, 100]⟩]), (14, .agg #[.int .i64 46, .string ⟨#[105, 97, 108, 111, 97, 100]⟩]), (15, .agg #[.int .i64 50, .string ⟨#[97, 97, 108, 111, 97, 100]⟩]), (16, .agg #[.int .i64 54, .string ⟨#[105, 115, 116, 111, 114, 101]⟩]), (17, .agg #[.int .i64 58, .string ⟨#[97, 115, 116, 111, 114, 101]⟩]), (18, .agg #[.int .i64 79, .string ⟨#[105, 97, 115, 116, 111, 114, 101]⟩]), (19, .agg #[.int .i64 83, .string ⟨#[97, 97, 115, 116, 111, 114, 101]⟩]), (20, .agg #[.int .i64 87, .string ⟨#[112, 111, 112]⟩]), (21, .agg #[.int .i64 89, .string ⟨#[100, 117, 112]⟩]), (22, .agg #[.int .i64 95, .string ⟨#[115, 119, 97, 112]⟩]), (23, .agg #[.int .i64 96, .string ⟨#[97, 100, 100]⟩]), (24, .agg #[.int .i64 100, .string ⟨#[115, 117, 98]⟩]), (25, .agg #[.int .i64 104, .string ⟨#[109, 117, 108]⟩]), (26, .agg #[.int .i64 108, .string ⟨#[100, 105, 118]⟩]), (27, .agg #[.int .i64 112, .string ⟨#[114, 101, 109]⟩]), (28, .agg #[.int .i64 116, .string ⟨#[110, 101, 103]⟩]), (29, .agg #[.int .i64 120, .string ⟨#[115, 104, 108]⟩]), (30, .agg #[.int .i64 122, .string ⟨#[115, 104, 114]⟩]), (31, .agg #[.int .i64 124, .string ⟨#[117, 115, 104, 114]⟩]), (32, .agg #[.int .i64 126, .string ⟨#[97, 110, 100]⟩]), (33, .agg #[.int .i64 128, .string ⟨#[111, 114]⟩]), (34, .agg #[.int .i64 130, .string ⟨#[120, 111, 114]⟩]), (35, .agg #[.int .i64 132, .string ⟨#[105, 110, 99]⟩]), (36, .agg #[.int .i64 153, .string ⟨#[105, 102, 101, 113]⟩]), (37, .agg #[.int .i64 154, .string ⟨#[105, 102, 110, 101]⟩]), (38, .agg #[.int .i64 155, .string ⟨#[105, 102, 108, 116]⟩]), (39, .agg #[.int .i64 156, .string ⟨#[105, 102, 103, 101]⟩]), (40, .agg #[.int .i64 157, .string ⟨#[105, 102, 103, 116]⟩]), (41, .agg #[.int .i64 158, .string ⟨#[105, 102, 108, 101]⟩]), (42, .agg #[.int .i64 159, .string ⟨#[99, 109, 112, 101, 113]⟩]), (43, .agg #[.int .i64 160, .string ⟨#[99, 109, 112, 110, 101]⟩]), (44, .agg #[.int .i64 161, .string ⟨#[99, 109, 112, 108, 116]⟩]), (45, .agg #[.int .i64 162, .string ⟨#[99, 109, 112, 103, 101]⟩]), (46, .agg #[.int .i64 163, .string ⟨#[99, 109, 112, 103, 116]⟩]), (47, .agg #[.int .i64 164, .string ⟨#[99, 109, 112, 108, 101]⟩]), (48, .agg #[.int .i64 165, .string ⟨#[114, 101, 102, 101, 113]⟩]), (49, .agg #[.int .i64 166, .string ⟨#[114, 101, 102, 110, 101]⟩]), (50, .agg #[.int .i64 167, .string ⟨#[103, 111, 116, 111]⟩]), (51, .agg #[.int .i64 172, .string ⟨#[105, 114, 101, 116, 117, 114, 110]⟩]), (52, .agg #[.int .i64 176, .string ⟨#[97, 114, 101, 116, 117, 114, 110]⟩]), (53, .agg #[.int .i64 177, .string ⟨#[114, 101, 116, 117, 114, 110]⟩]), (54, .agg #[.int .i64 178, .string ⟨#[103, 101, 116, 115, 116, 97, 116, 105, 99]⟩]), (55, .agg #[.int .i64 179, .string ⟨#[112, 117, 116, 115, 116, 97, 116, 105, 99]⟩]), (56, .agg #[.int .i64 180, .string ⟨#[103, 101, 116, 102, 105, 101, 108, 100]⟩]), (57, .agg #[.int .i64 181, .string ⟨#[112, 117, 116, 102, 105, 101, 108, 100]⟩]), (58, .agg #[.int .i64 182, .string ⟨#[118, 105, 114, 116, 117, 97, 108]⟩]), (59, .agg #[.int .i64 184, .string ⟨#[115, 116, 97, 116, 105, 99]⟩]), (60, .agg #[.int .i64 187, .string ⟨#[110, 101, 119]⟩]), (61, .agg #[.int .i64 188, .string ⟨#[110, 101, 119, 105, 110, 116, 115]⟩]), (62, .agg #[.int .i64 189, .string ⟨#[110, 101, 119, 114, 101, 102, 115]⟩]), (63, .agg #[.int .i64 190, .string ⟨#[108, 101, 110, 103, 116, 104]⟩]), (64, .agg #[.int .i64 191, .string ⟨#[116, 104, 114, 111, 119]⟩]), (65, .agg #[.int .i64 192, .string ⟨#[99, 97, 115, 116]⟩]), (66, .agg #[.int .i64 193, .string ⟨#[105, 115, 97]⟩]), (67, .agg #[.int .i64 194, .string ⟨#[101, 110, 116, 101, 114]⟩]), (68, .agg #[.int .i64 195, .string ⟨#[101, 120, 105, 116]⟩]), (69, .agg #[.int .i64 198, .string ⟨#[105, 102, 110, 117, 108, 108]⟩]), (70, .agg #[.int .i64 199, .string ⟨#[105, 102, 115, 111, 109, 101]⟩])]
theorem run_tab5 (w : World) : (Instr.buildSlice 115 71 parts5).run Try.prog w = .ok (.slice (some ⟨w.heap.size, 0, none⟩) 71 71) (w.alloc tab5) := by
  have hu : Try.prog.underlying 115 = some (.slice 114) := by kernel_rfl
  obtain ⟨i0, hi, hz0, hz1, hz2⟩ := info_parts (P := Try.prog) (e := 114) (z := .agg #[.int .i64 0, .string ⟨#[]⟩]) (size := 2) (bytes := 24) (by kernel_rfl)
  have hf : Instr.fill (fun i => some (i * 2, 2)) (Array.map (fun x => ([Value.int .i64 0, .string ⟨#[]⟩] : List Value)[x % 2]?.getD default) (Array.range 142)) parts5.toList = some (names5.flatMap nrow).toArray := by kernel_rfl
  generalize parts5 = ps at *
  unfold tab5
  generalize (names5.flatMap nrow).toArray = res at *
  simp [Instr.buildSlice, run_underlying hu, sizeOf, typeInfo, zeroValue, hi, hz0, hz1, Value.cells]
  rw [hf]
  simp [newRow]
end Go.Proofs.Ytbmfkbgncjldjab
namespace Go.Proofs.Ytbmfkbgncjldjab
open Go.RowKit
theorem name_kd : (List.range 256).all (fun n => (kd (n : Int) == 0) == ((nameO (n : Int)).size == 0)) = true := by first | decide +kernel | kernel_rfl
theorem names_kd : names5.all (fun p => kd p.1 != 0) = true := by first | decide +kernel | kernel_rfl
theorem name_no {op : Int} (h : kd op = 0) : nameO op = ⟨#[]⟩ := find_no fun q hq e => by
  have := List.all_eq_true.1 names_kd q hq
  rw [e, h] at this
  exact absurd this (by decide)
theorem name_yes {op : Int} (h : kd op ≠ 0) : ((nameO op).toList == []) = false := by
  obtain ⟨h0, h1⟩ := kd_byte h
  have := List.all_eq_true.1 name_kd op.toNat (List.mem_range.2 (by omega))
  rw [Int.toNat_of_nonneg h0] at this
  have hk : (kd op == 0) = false := by simpa using h
  rw [hk] at this
  have hs : (nameO op).size ≠ 0 := by simpa using this
  rw [Lib.toList_data]
  cases hd : (nameO op).data.toList with
  | nil => exact absurd (by rw [Lib.size_eq, hd]; rfl) hs
  | cons a l => rfl
def NameC : Prop := ∀ (op : Int) (W : World), Calls Try.prog 41 #[.int .i64 op] W fun e w' => e = .returned (.string (nameO op)) ∧ Below W.heap.size W w'
theorem sz_two {op : Int} (h : op = 16 ∨ op = 18 ∨ op = 21 ∨ op = 25 ∨ op = 54 ∨ op = 58 ∨ op = 188) : sz op = 2 := by
  rcases h with rfl | rfl | rfl | rfl | rfl | rfl | rfl <;> decide
theorem sz_thr {op : Int} (h : op = 17 ∨ op = 132 ∨ op = 178 ∨ op = 179 ∨ op = 180 ∨ op = 181 ∨ op = 182 ∨ op = 184 ∨ op = 187 ∨ op = 189 ∨ op = 192 ∨ op = 193) : sz op = 3 := by
  rcases h with rfl | rfl | rfl | rfl | rfl | rfl | rfl | rfl | rfl | rfl | rfl | rfl <;> decide
theorem sz_six {op : Int} (h : kd op = 6) : sz op = 3 := by unfold sz; rw [h]; rfl
theorem kd_rest {op : Int} (h1 : ¬ (op = 16 ∨ op = 18 ∨ op = 21 ∨ op = 25 ∨ op = 54 ∨ op = 58 ∨ op = 188)) (h2 : ¬ (op = 17 ∨ op = 132 ∨ op = 178 ∨ op = 179 ∨ op = 180 ∨ op = 181 ∨ op = 182 ∨ op = 184 ∨ op = 187 ∨ op = 189 ∨ op = 192 ∨ op = 193)) (h3 : kd op ≠ 6) : kd op = 0 ∨ kd op = 1 := by
  unfold kd at h3 ⊢
  repeat' split
  all_goals first | omega | (simp_all; omega) | simp_all
set_option maxRecDepth 8000 in
set_option maxHeartbeats 4000000 in
theorem rsize (hN : NameC) (op : Int) (w : World) : Calls Try.prog 30 #[.int .i64 op] w fun e w' => e = .returned (.int .i64 (sz op : Nat)) ∧ Below w.heap.size w w' := by
  have gN := hidIt (hN op w)
  have gB := hidIt (rbranch op w)
  have B0 := hidIt (Below.refl w.heap.size w)
  by_cases h1 : op = 16 ∨ op = 18 ∨ op = 21 ∨ op = 25 ∨ op = 54 ∨ op = 58 ∨ op = 188
  · rw [sz_two h1]
    clear gN gB hN
    rcases h1 with rfl | rfl | rfl | rfl | rfl | rfl | rfl
    all_goals
      go_enter Try.func30, Try.ntmps30
      go_wp2
      go_ret
      exact ⟨rfl, B0.out⟩
  · by_cases h2 : op = 17 ∨ op = 132 ∨ op = 178 ∨ op = 179 ∨ op = 180 ∨ op = 181 ∨ op = 182 ∨ op = 184 ∨ op = 187 ∨ op = 189 ∨ op = 192 ∨ op = 193
    · rw [sz_thr h2]
      clear gN gB hN h1
      rcases h2 with rfl | rfl | rfl | rfl | rfl | rfl | rfl | rfl | rfl | rfl | rfl | rfl
      all_goals
        go_enter Try.func30, Try.ntmps30
        go_wp2
        go_ret
        exact ⟨rfl, B0.out⟩
    · have n16 : (op == 16) = false := by simp; omega
      have n18 : (op == 18) = false := by simp; omega
      have n21 : (op == 21) = false := by simp; omega
      have n25 : (op == 25) = false := by simp; omega
      have n54 : (op == 54) = false := by simp; omega
      have n58 : (op == 58) = false := by simp; omega
      have n188 : (op == 188) = false := by simp; omega
      have n17 : (op == 17) = false := by simp; omega
      have n132 : (op == 132) = false := by simp; omega
      have n178 : (op == 178) = false := by simp; omega
      have n179 : (op == 179) = false := by simp; omega
      have n180 : (op == 180) = false := by simp; omega
      have n181 : (op == 181) = false := by simp; omega
      have n182 : (op == 182) = false := by simp; omega
      have n184 : (op == 184) = false := by simp; omega
      have n187 : (op == 187) = false := by simp; omega
      have n189 : (op == 189) = false := by simp; omega
      have n192 : (op == 192) = false := by simp; omega
      have n193 : (op == 193) = false := by simp; omega
      by_cases h3 : kd op = 6
      · rw [sz_six h3]
        rw [decide_eq_true h3] at gB
        clear gN hN h1 h2 h3
        go_enter Try.func30, Try.ntmps30
        go_wp2_with fail
        refine gB.out.mono ?_
        rintro e w' ⟨rfl, hww⟩; cases hww
        go_wp2
        go_ret
        exact ⟨rfl, B0.out⟩
      · rw [decide_eq_false h3] at gB
        rcases kd_rest h1 h2 h3 with h4 | h4
        · rw [show sz op = 0 from (sz_zero op).2 h4]
          rw [name_no h4] at gN
          clear hN h1 h2 h3 h4
          go_enter Try.func30, Try.ntmps30
          go_wp2_with fail
          refine gB.out.mono ?_
          rintro e w' ⟨rfl, hww⟩; cases hww
          go_wp2_with fail
          refine gN.out.mono ?_
          rintro e w2 ⟨rfl, b2⟩
          have B2 := hidIt b2
          clear b2
          go_wp2
          go_ret
          exact ⟨rfl, B2.out⟩
        · rw [show sz op = 1 by unfold sz; rw [h4]; rfl]
          have hy := name_yes (op := op) (by omega)
          generalize nameO op = s at *
          clear hN h1 h2 h3 h4
          go_enter Try.func30, Try.ntmps30
          go_wp2_with fail
          refine gB.out.mono ?_
          rintro e w' ⟨rfl, hww⟩; cases hww
          go_wp2_with fail
          refine gN.out.mono ?_
          rintro e w2 ⟨rfl, b2⟩
          have B2 := hidIt b2
          clear b2
          go_wp2
          go_ret
          exact ⟨rfl, B2.out⟩
end Go.Proofs.Ytbmfkbgncjldjab
namespace Go.Proofs.Ytbmfkbgncjldjab
open Go.RowKit

set_option maxRecDepth 8000 in
set_option maxHeartbeats 1000000 in
theorem rends (op : Int) (w : World) : Calls Try.prog 9 #[.int .i64 op] w fun e w' => e = .returned (.bool (endsB op)) ∧ w' = w := by
  have HE : Hid (endsB op = (op == 167 || (op == 172 || (op == 176 || (op == 177 || op == 191))))) := by show _ = _; unfold endsB; rfl
  generalize endsB op = r at *
  go_enter Try.func9, Try.ntmps9
  go_wp2
  all_goals go_ret
  all_goals refine ⟨?_, rfl⟩
  all_goals rw [HE.out]; simp_all [Bool.or_assoc]
theorem stands_any (v : Value) (l : List IN) (p : Int) (w : World) (hv : IView w v l) :
    Calls Try.prog 35 #[v, .int .i64 p] w fun e w' => e = .returned (.bool (decide (0 ≤ findZ l p))) ∧ Below w.heap.size w w' := by
  have HF := hidIt (find_any v l p w hv)
  obtain ⟨ao, cap, rfl, -⟩ := hv
  go_enter Try.func35, Try.ntmps35
  go_wp2_with fail
  refine HF.out.mono ?_
  rintro e w' ⟨rfl, hb⟩
  go_wp2
  go_ret
  exact ⟨rfl, hb⟩
def endZ (l : List IN) : Int := match l.getLast? with
  | some x => x.pl + (sz x.op : Nat)
  | none => 0
theorem last_get {l : List IN} {x : IN} (h : l[l.length - 1]? = some x) : l.getLast? = some x := by
  rw [List.getLast?_eq_getElem?]; exact h
set_option maxRecDepth 8000 in
set_option maxHeartbeats 1000000 in
theorem end_any (v : Value) (l : List IN) (w : World) (hv : IView w v l) (h0 : 0 < l.length) (hp : ∀ x ∈ l, -4611686018427387904 ≤ x.pl ∧ x.pl ≤ 4611686018427387904) :
    Calls Try.prog 36 #[v] w fun e w' => e = .returned (.int .i64 (endZ l)) ∧ Below w.heap.size w w' := by
  have HV := hidIt hv
  obtain ⟨ao, cap, rfl, hc, hm, _⟩ := hv
  unfold maxLen at hm
  obtain ⟨x, hx⟩ : ∃ x, l[l.length - 1]? = some x := ⟨l[l.length - 1], List.getElem?_eq_getElem (by omega)⟩
  obtain ⟨g, off, rfl, c0, c1, c2, c3⟩ := HV.out.row hx
  have hz : endZ l = x.pl + (sz x.op : Nat) := by unfold endZ; rw [last_get hx]
  have hpx := hp x (List.mem_of_getElem? hx)
  have hsz : (sz x.op : Nat) ≤ 3 := sz_le x.op
  rw [hz]
  have hA := below_alloc w (.cells #[.int .i64 x.pl, .int .i64 x.op, .int .i64 x.a, .int .i64 x.b] 37)
  have HA := hidIt hA
  have hW := box_at w x
  obtain ⟨d0, d1, d2, d3⟩ := hW
  have G := hidIt (fun W => size_any x.op W)
  clear hx hz hp hA HV
  generalize l.length = N at *
  obtain ⟨n1, rfl⟩ : ∃ n1, N = n1 + 1 := ⟨N - 1, by omega⟩
  rw [show n1 + 1 - 1 = n1 by omega] at *
  go_enter Try.func36, Try.ntmps36
  go_wp2_with fail
  go_quiet ((go_at_call 47; exact Calls.quiet_of_same (G.out _)))
  go_wp2
  go_ret
  exact ⟨rfl, below_drewN HA.out _⟩
def tgtZ (l : List IN) (x : IN) : Int := if kd x.op = 6 then findZ l x.a else -1
set_option maxRecDepth 8000 in
set_option maxHeartbeats 1000000 in
theorem target_any (v : Value) (l : List IN) (x : IN) (w : World) (hv : IView w v l) :
    Calls Try.prog 21 #[v, x.val] w fun e w' => e = .returned (.int .i64 (tgtZ l x)) ∧ Below w.heap.size w w' := by
  have hA := below_alloc w (.cells #[.int .i64 x.pl, .int .i64 x.op, .int .i64 x.a, .int .i64 x.b] 37)
  have HA := hidIt hA
  have HF := hidIt (find_any v l x.a _ (hv.below hA))
  have GB := hidIt (fun W => branch_any x.op W)
  obtain ⟨ao, cap, rfl, -⟩ := hv
  have HT : Hid (tgtZ l x = if kd x.op = 6 then findZ l x.a else -1) := by show _ = _; rfl
  generalize tgtZ l x = r at *
  unfold IN.val
  clear hA
  by_cases h6 : kd x.op = 6
  · rw [decide_eq_true h6] at GB
    rw [if_pos h6] at HT
    go_enter Try.func21, Try.ntmps21
    go_wp2_with (first | (go_at_call 34; refine (GB.out _).mono ?_; rintro e w' ⟨rfl, hww⟩; cases hww) | (go_at_call 13; refine HF.out.mono ?_; rintro e w' ⟨rfl, hb⟩))
    go_ret
    exact ⟨ret_int HT.out.symm, HA.out.trans (hb.mono HA.out.size)⟩
  · rw [decide_eq_false h6] at GB
    rw [if_neg h6] at HT
    go_enter Try.func21, Try.ntmps21
    go_wp2_with (first | (go_at_call 34; refine (GB.out _).mono ?_; rintro e w' ⟨rfl, hww⟩; cases hww))
    go_ret
    exact ⟨ret_int HT.out.symm, HA.out⟩
end Go.Proofs.Ytbmfkbgncjldjab
namespace Go.Proofs.Ytbmfkbgncjldjab

structure HN where
  f : Int
  t : Int
  a : Int
  ty : ByteArray
def HN.val (x : HN) : Value := .agg #[.int .i64 x.f, .int .i64 x.t, .int .i64 x.a, .string x.ty]
def hrow (x : HN) : List Value := [.int .i64 x.f, .int .i64 x.t, .int .i64 x.a, .string x.ty]
end Go.Proofs.Ytbmfkbgncjldjab
