/- Texts RB RZ FB HNa FH FC FK. -/
import Derived.Test.YtlnapfeglbdecaaBm01
import Derived.WalkMore
import Derived.Test.YtlnapfeglbdecaaProg
import Derived.Deep.RegionHeld3
import Derived.Lib.SliceRun
import Derived.Laws.OwnMore
import Derived.Deep.OwnRows
namespace Go.Proofs.Ytlnapfeglbdecaa
open Go.RowKit
set_option maxRecDepth 8000 in
set_option maxHeartbeats 1000000 in
theorem rbranch (op : Int) (w : World) : Calls Try.prog 20 #[.int .i64 op] w fun e w' => e = .returned (.bool (decide (kd op = 6))) ∧ w' = w := by
  have hk := kd_six op
  by_cases h1 : 153 ≤ op
  · by_cases h2 : op ≤ 167
    · rw [decide_eq_true (hk.2 (by omega))]
      clear hk
      go_enter Try.func20, Try.ntmps20
      go_wp2
      go_ret
      exact ⟨rfl, rfl⟩
    · by_cases h3 : op = 198
      · subst h3
        rw [decide_eq_true (hk.2 (by omega))]
        clear hk
        go_enter Try.func20, Try.ntmps20
        go_wp2
        go_ret
        exact ⟨rfl, rfl⟩
      · by_cases h4 : op = 199
        · subst h4
          rw [decide_eq_true (hk.2 (by omega))]
          clear hk
          go_enter Try.func20, Try.ntmps20
          go_wp2
          go_ret
          exact ⟨rfl, rfl⟩
        · rw [decide_eq_false (fun h => by have := hk.1 h; omega)]
          clear hk
          have h3' : (op == 198) = false := by simpa using h3
          have h4' : (op == 199) = false := by simpa using h4
          go_enter Try.func20, Try.ntmps20
          go_wp2
          go_ret
          exact ⟨rfl, rfl⟩
  · rw [decide_eq_false (fun h => by have := hk.1 h; omega)]
    clear hk
    have h3' : (op == 198) = false := by simp; omega
    have h4' : (op == 199) = false := by simp; omega
    go_enter Try.func20, Try.ntmps20
    go_wp2
    go_ret
    exact ⟨rfl, rfl⟩
theorem r5_alloc (w : World) (o : Obj) : Below w.heap.size w (w.alloc o) := (Below.refl _ _).alloc (Nat.le_refl _) o
theorem r5_get {α : Type} (row : α → List Value) (k : Nat) (hk : ∀ x, (row x).length = k) : ∀ (l : List α) (j : Nat) (x : α) (i : Nat), l[j]? = some x → i < k → (l.flatMap row)[j * k + i]? = (row x)[i]? := by
  intro l
  induction l with
  | nil => intro j x i h; simp at h
  | cons y l ih =>
    intro j x i h hi
    rw [List.flatMap_cons]
    cases j with
    | zero =>
      simp at h; subst h
      rw [Nat.zero_mul, Nat.zero_add, List.getElem?_append_left (by rw [hk]; exact hi)]
    | succ j =>
      simp at h
      rw [List.getElem?_append_right (by rw [hk, Nat.succ_mul]; omega), hk, show (j + 1) * k + i - k = j * k + i by rw [Nat.succ_mul]; omega]
      exact ih j x i h hi
theorem r5_cell {w : World} {b : Nat} {cs : Array Value} {T : TypeId} (h : w.heap[b]? = some (.cells cs T (0, 0))) (j : Nat) {v : Value} (hv : cs[j]? = some v) : w.cell? ⟨b, j, none⟩ = some v := by
  rw [cell_of_row w b j _ T (0, 0) h]; exact hv
def in5 (n lo hi : Int) : Bool := decide (lo ≤ n) && decide (n ≤ hi)
set_option maxRecDepth 8000 in
set_option maxHeartbeats 1000000 in
theorem rin (n lo hi : Int) (w : World) : Calls Try.prog 71 #[.int .i64 n, .int .i64 lo, .int .i64 hi] w fun e w' => e = .returned (.bool (in5 n lo hi)) ∧ w' = w := by
  unfold in5
  by_cases h1 : lo ≤ n
  · by_cases h2 : n ≤ hi <;>
    · go_enter Try.func71, Try.ntmps71
      go_wp2
      go_ret
      exact ⟨by simp [h1, h2], rfl⟩
  · go_enter Try.func71, Try.ntmps71
    go_wp2
    go_ret
    exact ⟨by rw [decide_eq_false (show ¬ lo ≤ n by omega)]; rfl, rfl⟩
def sg5 (op : Int) : Bool := decide (kd op = 3) || (decide (kd op = 5) || decide (kd op = 6))
set_option maxRecDepth 8000 in
set_option maxHeartbeats 1000000 in
theorem rsigned (op : Int) (w : World) : Calls Try.prog 19 #[.int .i64 op] w fun e w' => e = .returned (.bool (sg5 op)) ∧ w' = w := by
  have gB := hidIt (rbranch op w)
  have h3 := kd_three op
  have h5 := kd_five op
  unfold sg5
  by_cases e1 : op = 16
  · rw [decide_eq_true (h3.2 e1)]
    subst e1
    clear gB h3 h5
    go_enter Try.func19, Try.ntmps19
    go_wp2
    go_ret
    exact ⟨rfl, rfl⟩
  · rw [decide_eq_false (fun h => e1 (h3.1 h))]
    have e1' : (op == 16) = false := by simpa using e1
    by_cases e2 : op = 17
    · rw [decide_eq_true (h5.2 e2)]
      subst e2
      clear gB h3 h5
      go_enter Try.func19, Try.ntmps19
      go_wp2
      go_ret
      exact ⟨rfl, rfl⟩
    · rw [decide_eq_false (fun h => e2 (h5.1 h))]
      have e2' : (op == 17) = false := by simpa using e2
      clear h3 h5
      generalize decide (kd op = 6) = q at *
      go_enter Try.func19, Try.ntmps19
      go_wp2_with fail
      refine gB.out.mono ?_
      rintro e w' ⟨rfl, hww⟩; cases hww
      go_wp2
      go_ret
      exact ⟨by cases q <;> rfl, rfl⟩
def nrow (p : Int × ByteArray) : List Value := [.int .i64 p.1, .string p.2]
theorem nrow_len (p : Int × ByteArray) : (nrow p).length = 2 := rfl
theorem names_len : names5.length = 71 := by rfl
theorem find_at {op : Int} {j : Nat} {p : Int × ByteArray} (hp : names5[j]? = some p) (h : p.1 = op) (hn : ∀ q ∈ names5.take j, q.1 ≠ op) : nameO op = p.2 := by
  unfold nameO
  have e : names5.find? (fun p => p.1 == op) = some p := by
    rw [← List.take_append_drop j names5, List.find?_append]
    have h1 : (names5.take j).find? (fun p => p.1 == op) = none := List.find?_eq_none.2 (fun q hq => by simpa using hn q hq)
    obtain ⟨hj, rfl⟩ := List.getElem?_eq_some_iff.1 hp
    rw [h1, List.drop_eq_getElem_cons hj, List.find?_cons_of_pos (by simpa using h)]
    rfl
  rw [e]
def tab5 : Obj := .cells (names5.flatMap nrow).toArray 107
theorem tab_cell {w : World} {g : Nat} (hg : w.heap[g]? = some tab5) {j : Nat} {p : Int × ByteArray} (hp : names5[j]? = some p) : w.cell? ⟨g, j * 2, none⟩ = some (.int .i64 p.1) ∧ w.cell? ⟨g, j * 2 + 1, none⟩ = some (.string p.2) := by
  have h0 := r5_get nrow 2 nrow_len names5 j p 0 hp (by decide)
  have h1 := r5_get nrow 2 nrow_len names5 j p 1 hp (by decide)
  unfold tab5 at hg
  exact ⟨r5_cell hg (j * 2 + 0) (by simpa [nrow] using h0), r5_cell hg (j * 2 + 1) (by simpa [nrow] using h1)⟩
def parts5 : Array (Nat × Value) := #[(0, .agg #[.int .i64 0, .string ⟨#[110, 111, 112]⟩]), (1, .agg #[.int .i64 1, .string ⟨#[110, 117, 108, 108]⟩]), (2, .agg #[.int .i64 2, .string ⟨#[99, 111, 110, 115, 116, 109, 49]⟩]), (3, .agg #[.int .i64 3, .string ⟨#[99, 111, 110, 115, 116, 48]⟩]), (4, .agg #[.int .i64 4, .string ⟨#[99, 111, 110, 115, 116, 49]⟩]), (5, .agg #[.int .i64 5, .string ⟨#[99, 111, 110, 115, 116, 50]⟩]), (6, .agg #[.int .i64 6, .string ⟨#[99, 111, 110, 115, 116, 51]⟩]), (7, .agg #[.int .i64 7, .string ⟨#[99, 111, 110, 115, 116, 52]⟩]), (8, .agg #[.int .i64 8, .string ⟨#[99, 111, 110, 115, 116, 53]⟩]), (9, .agg #[.int .i64 16, .string ⟨#[112, 117, 115, 104, 49]⟩]), (10, .agg #[.int .i64 17, .string ⟨#[112, 117, 115, 104, 50]⟩]), (11, .agg #[.int .i64 18, .string ⟨#[108, 100, 99]⟩]), (12, .agg #[.int .i64 21, .string ⟨#[105, 108, 111, 97, 100]⟩]), (13, .agg #[.int .i64 25, .string ⟨#[97, 108, 111, 97, 100]⟩]), (14, .agg #[.int .i64 46, .string ⟨#[105, 97, 108, 111, 97, 100]⟩]), (15, .agg #[.int .i64 50, .string ⟨#[97, 97, 108, 111, 97, 100]⟩]), (16, .agg #[.int .i64 54, .string ⟨#[105, 115, 116, 111, 114, 101]⟩]), (17, .agg #[.int .i64 58, .string ⟨#[97, 115, 116, 111, 114, 101]⟩]), (18, .agg #[.int .i64 79, .string ⟨#[105, 97, 115, 116, 111, 114, 101]⟩]), (19, .agg #[.int .i64 83, .string ⟨#[97, 97, 115, 116, 111, 114, 101]⟩]), (20, .agg #[.int .i64 87, .string ⟨#[112, 111, 112]⟩]), (21, .agg #[.int .i64 89, .string ⟨#[100, 117, 112]⟩]), (22, .agg #[.int .i64 95, .string ⟨#[115, 119, 97, 112]⟩]), (23, .agg #[.int .i64 96, .string ⟨#[97, 100, 100]⟩]), (24, .agg #[.int .i64 100, .string ⟨#[115, 117, 98]⟩]), (25, .agg #[.int .i64 104, .string ⟨#[109, 117, 108]⟩]), (26, .agg #[.int .i64 108, .string ⟨#[100, 105, 118]⟩]), (27, .agg #[.int .i64 112, .string ⟨#[114, 101, 109]⟩]), (28, .agg #[.int .i64 116, .string ⟨#[110, 101, 103]⟩]), (29, .agg #[.int .i64 120, .string ⟨#[115, 104, 108]⟩]), (30, .agg #[.int .i64 122, .string ⟨#[115, 104, 114]⟩]), (31, .agg #[.int .i64 124, .string ⟨#[117, 115, 104, 114]⟩]), (32, .agg #[.int .i64 126, .string ⟨#[97, 110, 100]⟩]), (33, .agg #[.int .i64 128, .string ⟨#[111, 114]⟩]), (34, .agg #[.int .i64 130, .string ⟨#[120, 111, 114]⟩]), (35, .agg #[.int .i64 132, .string ⟨#[105, 110, 99]⟩]), (36, .agg #[.int .i64 153, .string ⟨#[105, 102, 101, 113]⟩]), (37, .agg #[.int .i64 154, .string ⟨#[105, 102, 110, 101]⟩]), (38, .agg #[.int .i64 155, .string ⟨#[105, 102, 108, 116]⟩]), (39, .agg #[.int .i64 156, .string ⟨#[105, 102, 103, 101]⟩]), (40, .agg #[.int .i64 157, .string ⟨#[105, 102, 103, 116]⟩]), (41, .agg #[.int .i64 158, .string ⟨#[105, 102, 108, 101]⟩]), (42, .agg #[.int .i64 159, .string ⟨#[99, 109, 112, 101, 113]⟩]), (43, .agg #[.int .i64 160, .string ⟨#[99, 109, 112, 110, 101]⟩]), (44, .agg #[.int .i64 161, .string ⟨#[99, 109, 112, 108, 116]⟩]), (45, .agg #[.int .i64 162, .string ⟨#[99, 109, 112, 103, 101]⟩]), (46, .agg #[.int .i64 163, .string ⟨#[99, 109, 112, 103, 116]⟩]), (47, .agg #[.int .i64 164, .string ⟨#[99, 109, 112, 108, 101]⟩]), (48, .agg #[.int .i64 165, .string ⟨#[114, 101, 102, 101, 113]⟩]), (49, .agg #[.int .i64 166, .string ⟨#[114, 101, 102, 110, 101]⟩]), (50, .agg #[.int .i64 167, .string ⟨#[103, 111, 116, 111]⟩]), (51, .agg #[.int .i64 172, .string ⟨#[105, 114, 101, 116, 117, 114, 110]⟩]), (52, .agg #[.int .i64 176, .string ⟨#[97, 114, 101, 116, 117, 114, 110]⟩]), (53, .agg #[.int .i64 177, .string ⟨#[114, 101, 116, 117, 114, 110]⟩]), (54, .agg #[.int .i64 178, .string ⟨#[103, 101, 116, 115, 116, 97, 116, 105, 99]⟩]), (55, .agg #[.int .i64 179, .string ⟨#[112, 117, 116, 115, 116, 97, 116, 105, 99]⟩]), (56, .agg #[.int .i64 180, .string ⟨#[103, 101, 116, 102, 105, 101, 108, 100]⟩]), (57, .agg #[.int .i64 181, .string ⟨#[112, 117, 116, 102, 105, 101, 108, 100]⟩]), (58, .agg #[.int .i64 182, .string ⟨#[118, 105, 114, 116, 117, 97, 108]⟩]), (59, .agg #[.int .i64 184, .string ⟨#[115, 116, 97, 116, 105, 99]⟩]), (60, .agg #[.int .i64 187, .string ⟨#[110, 101, 119]⟩]), (61, .agg #[.int .i64 188, .string ⟨#[110, 101, 119, 105, 110, 116, 115]⟩]), (62, .agg #[.int .i64 189, .string ⟨#[110, 101, 119, 114, 101, 102, 115]⟩]), (63, .agg #[.int .i64 190, .string ⟨#[108, 101, 110, 103, 116, 104]⟩]), (64, .agg #[.int .i64 191, .string ⟨#[116, 104, 114, 111, 119]⟩]), (65, .agg #[.int .i64 192, .string ⟨#[99, 97, 115, 116]⟩]), (66, .agg #[.int .i64 193, .string ⟨#[105, 115, 97]⟩]), (67, .agg #[.int .i64 194, .string ⟨#[101, 110, 116, 101, 114]⟩]), (68, .agg #[.int .i64 195, .string ⟨#[101, 120, 105, 116]⟩]), (69, .agg #[.int .i64 198, .string ⟨#[105, 102, 110, 117, 108, 108]⟩]), (70, .agg #[.int .i64 199, .string ⟨#[105, 102, 115, 111, 109, 101]⟩])]
theorem run_tab5 (w : World) : (Instr.buildSlice 108 71 parts5).run Try.prog w = .ok (.slice (some ⟨w.heap.size, 0, none⟩) 71 71) (w.alloc tab5) := by
  have hu : Try.prog.underlying 108 = some (.slice 107) := by kernel_rfl
  obtain ⟨i0, hi, hz0, hz1, hz2⟩ := info_parts (P := Try.prog) (e := 107) (z := .agg #[.int .i64 0, .string ⟨#[]⟩]) (size := 2) (bytes := 24) (by kernel_rfl)
  have hf : Instr.fill (fun i => some (i * 2, 2)) (Array.map (fun x => ([Value.int .i64 0, .string ⟨#[]⟩] : List Value)[x % 2]?.getD default) (Array.range 142)) parts5.toList = some (names5.flatMap nrow).toArray := by kernel_rfl
  generalize parts5 = ps at *
  unfold tab5
  generalize (names5.flatMap nrow).toArray = res at *
  simp [Instr.buildSlice, run_underlying hu, sizeOf, typeInfo, zeroValue, hi, hz0, hz1, Value.cells]
  rw [hf]
  simp [newRow]
end Go.Proofs.Ytlnapfeglbdecaa
namespace Go.Proofs.Ytlnapfeglbdecaa
open Go.RowKit
theorem name_kd : (List.range 256).all (fun n => (kd (n : Int) == 0) == ((nameO (n : Int)).size == 0)) = true := by first | decide +kernel | kernel_rfl
theorem names_kd : names5.all (fun p => kd p.1 != 0) = true := by first | decide +kernel | kernel_rfl
theorem name_no {op : Int} (h : kd op = 0) : nameO op = ⟨#[]⟩ := find_no fun q hq e => by
  have := List.all_eq_true.1 names_kd q hq
  rw [e, h] at this
  exact absurd this (by decide)
theorem name_yes {op : Int} (h : kd op ≠ 0) : ((nameO op).toList == []) = false := by
  obtain ⟨h0, h1⟩ := kd_byte h
  have := List.all_eq_true.1 name_kd op.toNat (List.mem_range.2 (by omega))
  rw [Int.toNat_of_nonneg h0] at this
  have hk : (kd op == 0) = false := by simpa using h
  rw [hk] at this
  have hs : (nameO op).size ≠ 0 := by simpa using this
  rw [Lib.toList_data]
  cases hd : (nameO op).data.toList with
  | nil => exact absurd (by rw [Lib.size_eq, hd]; rfl) hs
  | cons a l => rfl
def NameC : Prop := ∀ (op : Int) (W : World), Calls Try.prog 32 #[.int .i64 op] W fun e w' => e = .returned (.string (nameO op)) ∧ Below W.heap.size W w'
theorem sz_two {op : Int} (h : op = 16 ∨ op = 18 ∨ op = 21 ∨ op = 25 ∨ op = 54 ∨ op = 58 ∨ op = 188) : sz op = 2 := by
  rcases h with rfl | rfl | rfl | rfl | rfl | rfl | rfl <;> decide
theorem sz_thr {op : Int} (h : op = 17 ∨ op = 132 ∨ op = 178 ∨ op = 179 ∨ op = 180 ∨ op = 181 ∨ op = 182 ∨ op = 184 ∨ op = 187 ∨ op = 189 ∨ op = 192 ∨ op = 193) : sz op = 3 := by
  rcases h with rfl | rfl | rfl | rfl | rfl | rfl | rfl | rfl | rfl | rfl | rfl | rfl <;> decide
theorem sz_six {op : Int} (h : kd op = 6) : sz op = 3 := by unfold sz; rw [h]; rfl
theorem kd_rest {op : Int} (h1 : ¬ (op = 16 ∨ op = 18 ∨ op = 21 ∨ op = 25 ∨ op = 54 ∨ op = 58 ∨ op = 188)) (h2 : ¬ (op = 17 ∨ op = 132 ∨ op = 178 ∨ op = 179 ∨ op = 180 ∨ op = 181 ∨ op = 182 ∨ op = 184 ∨ op = 187 ∨ op = 189 ∨ op = 192 ∨ op = 193)) (h3 : kd op ≠ 6) : kd op = 0 ∨ kd op = 1 := by
  unfold kd at h3 ⊢
  repeat' split
  all_goals first | omega | (simp_all; omega) | simp_all
set_option maxRecDepth 8000 in
set_option maxHeartbeats 4000000 in
theorem rsize (hN : NameC) (op : Int) (w : World) : Calls Try.prog 18 #[.int .i64 op] w fun e w' => e = .returned (.int .i64 (sz op : Nat)) ∧ Below w.heap.size w w' := by
  have gN := hidIt (hN op w)
  have gB := hidIt (rbranch op w)
  have B0 := hidIt (Below.refl w.heap.size w)
  by_cases h1 : op = 16 ∨ op = 18 ∨ op = 21 ∨ op = 25 ∨ op = 54 ∨ op = 58 ∨ op = 188
  · rw [sz_two h1]
    clear gN gB hN
    rcases h1 with rfl | rfl | rfl | rfl | rfl | rfl | rfl
    all_goals
      go_enter Try.func18, Try.ntmps18
      go_wp2
      go_ret
      exact ⟨rfl, B0.out⟩
  · by_cases h2 : op = 17 ∨ op = 132 ∨ op = 178 ∨ op = 179 ∨ op = 180 ∨ op = 181 ∨ op = 182 ∨ op = 184 ∨ op = 187 ∨ op = 189 ∨ op = 192 ∨ op = 193
    · rw [sz_thr h2]
      clear gN gB hN h1
      rcases h2 with rfl | rfl | rfl | rfl | rfl | rfl | rfl | rfl | rfl | rfl | rfl | rfl
      all_goals
        go_enter Try.func18, Try.ntmps18
        go_wp2
        go_ret
        exact ⟨rfl, B0.out⟩
    · have n16 : (op == 16) = false := by simp; omega
      have n18 : (op == 18) = false := by simp; omega
      have n21 : (op == 21) = false := by simp; omega
      have n25 : (op == 25) = false := by simp; omega
      have n54 : (op == 54) = false := by simp; omega
      have n58 : (op == 58) = false := by simp; omega
      have n188 : (op == 188) = false := by simp; omega
      have n17 : (op == 17) = false := by simp; omega
      have n132 : (op == 132) = false := by simp; omega
      have n178 : (op == 178) = false := by simp; omega
      have n179 : (op == 179) = false := by simp; omega
      have n180 : (op == 180) = false := by simp; omega
      have n181 : (op == 181) = false := by simp; omega
      have n182 : (op == 182) = false := by simp; omega
      have n184 : (op == 184) = false := by simp; omega
      have n187 : (op == 187) = false := by simp; omega
      have n189 : (op == 189) = false := by simp; omega
      have n192 : (op == 192) = false := by simp; omega
      have n193 : (op == 193) = false := by simp; omega
      by_cases h3 : kd op = 6
      · rw [sz_six h3]
        rw [decide_eq_true h3] at gB
        clear gN hN h1 h2 h3
        go_enter Try.func18, Try.ntmps18
        go_wp2_with fail
        refine gB.out.mono ?_
        rintro e w' ⟨rfl, hww⟩; cases hww
        go_wp2
        go_ret
        exact ⟨rfl, B0.out⟩
      · rw [decide_eq_false h3] at gB
        rcases kd_rest h1 h2 h3 with h4 | h4
        · rw [show sz op = 0 from (sz_zero op).2 h4]
          rw [name_no h4] at gN
          clear hN h1 h2 h3 h4
          go_enter Try.func18, Try.ntmps18
          go_wp2_with fail
          refine gB.out.mono ?_
          rintro e w' ⟨rfl, hww⟩; cases hww
          go_wp2_with fail
          refine gN.out.mono ?_
          rintro e w2 ⟨rfl, b2⟩
          have B2 := hidIt b2
          clear b2
          go_wp2
          go_ret
          exact ⟨rfl, B2.out⟩
        · rw [show sz op = 1 by unfold sz; rw [h4]; rfl]
          have hy := name_yes (op := op) (by omega)
          generalize nameO op = s at *
          clear hN h1 h2 h3 h4
          go_enter Try.func18, Try.ntmps18
          go_wp2_with fail
          refine gB.out.mono ?_
          rintro e w' ⟨rfl, hww⟩; cases hww
          go_wp2_with fail
          refine gN.out.mono ?_
          rintro e w2 ⟨rfl, b2⟩
          have B2 := hidIt b2
          clear b2
          go_wp2
          go_ret
          exact ⟨rfl, B2.out⟩
end Go.Proofs.Ytlnapfeglbdecaa
namespace Go.Proofs.Ytlnapfeglbdecaa
open Go.RowKit

set_option maxRecDepth 8000 in
set_option maxHeartbeats 1000000 in
theorem rends (op : Int) (w : World) : Calls Try.prog 24 #[.int .i64 op] w fun e w' => e = .returned (.bool (endsB op)) ∧ w' = w := by
  have HE : Hid (endsB op = (op == 167 || (op == 172 || (op == 176 || (op == 177 || op == 191))))) := by show _ = _; unfold endsB; rfl
  generalize endsB op = r at *
  go_enter Try.func24, Try.ntmps24
  go_wp2
  all_goals go_ret
  all_goals refine ⟨?_, rfl⟩
  all_goals rw [HE.out]; simp_all [Bool.or_assoc]
def tgtZ (l : List IN) (x : IN) : Int := if kd x.op = 6 then findZ l x.a else -1
set_option maxRecDepth 8000 in
set_option maxHeartbeats 1000000 in
theorem target_any (v : Value) (l : List IN) (x : IN) (w : World) (hv : IView w v l) :
    Calls Try.prog 49 #[v, x.val] w fun e w' => e = .returned (.int .i64 (tgtZ l x)) ∧ Below w.heap.size w w' := by
  have hA := below_alloc w (.cells #[.int .i64 x.pl, .int .i64 x.op, .int .i64 x.a, .int .i64 x.b] 52)
  have HA := hidIt hA
  have HF := hidIt (find_any v l x.a _ (hv.below hA))
  have GB := hidIt (fun W => branch_any x.op W)
  obtain ⟨ao, cap, rfl, -⟩ := hv
  have HT : Hid (tgtZ l x = if kd x.op = 6 then findZ l x.a else -1) := by show _ = _; rfl
  generalize tgtZ l x = r at *
  unfold IN.val
  clear hA
  by_cases h6 : kd x.op = 6
  · rw [decide_eq_true h6] at GB
    rw [if_pos h6] at HT
    go_enter Try.func49, Try.ntmps49
    go_wp2_with (first | (go_at_call 64; refine (GB.out _).mono ?_; rintro e w' ⟨rfl, hww⟩; cases hww) | (go_at_call 34; refine HF.out.mono ?_; rintro e w' ⟨rfl, hb⟩))
    go_ret
    exact ⟨ret_int HT.out.symm, HA.out.trans (hb.mono HA.out.size)⟩
  · rw [decide_eq_false h6] at GB
    rw [if_neg h6] at HT
    go_enter Try.func49, Try.ntmps49
    go_wp2_with (first | (go_at_call 64; refine (GB.out _).mono ?_; rintro e w' ⟨rfl, hww⟩; cases hww))
    go_ret
    exact ⟨ret_int HT.out.symm, HA.out⟩
end Go.Proofs.Ytlnapfeglbdecaa
namespace Go.Proofs.Ytlnapfeglbdecaa

structure HN where
  f : Int
  t : Int
  a : Int
  ty : ByteArray
def HN.val (x : HN) : Value := .agg #[.int .i64 x.f, .int .i64 x.t, .int .i64 x.a, .string x.ty]
def hrow (x : HN) : List Value := [.int .i64 x.f, .int .i64 x.t, .int .i64 x.a, .string x.ty]
end Go.Proofs.Ytlnapfeglbdecaa
namespace Go.Proofs.Ytlnapfeglbdecaa
open Go.RowKit

def HAt (w : World) (g o : Nat) (x : HN) : Prop :=
  w.cell? ⟨g, o, none⟩ = some (.int .i64 x.f) ∧ w.cell? ⟨g, o + 1, none⟩ = some (.int .i64 x.t) ∧ w.cell? ⟨g, o + 2, none⟩ = some (.int .i64 x.a) ∧ w.cell? ⟨g, o + 3, none⟩ = some (.string x.ty)
theorem HAt.below {w w' : World} {g o : Nat} {x : HN} (h : HAt w g o x) (hb : Below w.heap.size w w') : HAt w' g o x :=
  ⟨cell_later hb h.1, cell_later hb h.2.1, cell_later hb h.2.2.1, cell_later hb h.2.2.2⟩
def HView (w : World) (v : Value) (l : List HN) : Prop :=
  ∃ ao cap, v = .slice ao l.length cap ∧ l.length ≤ cap ∧ cap ≤ maxLen ∧ (l = [] ∨ ∃ g off, ao = some ⟨g, off, none⟩ ∧ ∀ (j : Nat) (x : HN), l[j]? = some x → HAt w g (off + j * 4) x)
theorem HView.below {w wr : World} {v : Value} {l : List HN} (h : HView w v l) (hb : Below w.heap.size w wr) : HView wr v l := by
  obtain ⟨ao, cap, rfl, hc, hm, hl⟩ := h
  refine ⟨ao, cap, rfl, hc, hm, ?_⟩
  rcases hl with h | ⟨g, off, e, hl⟩
  · exact .inl h
  · exact .inr ⟨g, off, e, fun j x hj => (hl j x hj).below hb⟩
theorem HView.row {w : World} {ao : Option Addr} {n cap : Nat} {l : List HN} (h : HView w (.slice ao n cap) l) {j : Nat} {x : HN} (hj : l[j]? = some x) : ∃ g off, ao = some ⟨g, off, none⟩ ∧ HAt w g (off + j * 4) x := by
  obtain ⟨ao', cap', e, hc, hm, hl⟩ := h
  cases e
  rcases hl with rfl | ⟨g, off, rfl, hl⟩
  · simp at hj
  · exact ⟨g, off, rfl, hl j x hj⟩
theorem HView.nil (w : World) : HView w (.slice none 0 0) [] := ⟨none, 0, rfl, Nat.le_refl _, by unfold maxLen; omega, .inl rfl⟩
theorem hbox_at (w : World) (x : HN) : HAt (w.alloc (.cells #[.int .i64 x.f, .int .i64 x.t, .int .i64 x.a, .string x.ty] 55)) w.heap.size 0 x := by
  have h := heap_alloc_new w (.cells #[.int .i64 x.f, .int .i64 x.t, .int .i64 x.a, .string x.ty] 55)
  exact ⟨cell_row h 0 rfl, cell_row h 1 rfl, cell_row h 2 rfl, cell_row h 3 rfl⟩
structure FN where
  p : Int
  a1 : Option Addr
  n1 : Nat
  c1 : Nat
  a2 : Option Addr
  n2 : Nat
  c2 : Nat
def FN.val (x : FN) : Value := .agg #[.int .i64 x.p, .slice x.a1 x.n1 x.c1, .slice x.a2 x.n2 x.c2]
def frow (x : FN) : List Value := [.int .i64 x.p, .slice x.a1 x.n1 x.c1, .slice x.a2 x.n2 x.c2]
def FAt (w : World) (g o : Nat) (x : FN) : Prop :=
  w.cell? ⟨g, o, none⟩ = some (.int .i64 x.p) ∧ w.cell? ⟨g, o + 1, none⟩ = some (.slice x.a1 x.n1 x.c1) ∧ w.cell? ⟨g, o + 2, none⟩ = some (.slice x.a2 x.n2 x.c2)
theorem FAt.below {w w' : World} {g o : Nat} {x : FN} (h : FAt w g o x) (hb : Below w.heap.size w w') : FAt w' g o x :=
  ⟨cell_later hb h.1, cell_later hb h.2.1, cell_later hb h.2.2⟩
def FView (w : World) (v : Value) (l : List FN) : Prop :=
  ∃ ao cap, v = .slice ao l.length cap ∧ l.length ≤ cap ∧ cap ≤ maxLen ∧ (l = [] ∨ ∃ g off, ao = some ⟨g, off, none⟩ ∧ ∀ (j : Nat) (x : FN), l[j]? = some x → FAt w g (off + j * 3) x)
theorem FView.below {w wr : World} {v : Value} {l : List FN} (h : FView w v l) (hb : Below w.heap.size w wr) : FView wr v l := by
  obtain ⟨ao, cap, rfl, hc, hm, hl⟩ := h
  refine ⟨ao, cap, rfl, hc, hm, ?_⟩
  rcases hl with h | ⟨g, off, e, hl⟩
  · exact .inl h
  · exact .inr ⟨g, off, e, fun j x hj => (hl j x hj).below hb⟩
theorem FView.row {w : World} {ao : Option Addr} {n cap : Nat} {l : List FN} (h : FView w (.slice ao n cap) l) {j : Nat} {x : FN} (hj : l[j]? = some x) : ∃ g off, ao = some ⟨g, off, none⟩ ∧ FAt w g (off + j * 3) x := by
  obtain ⟨ao', cap', e, hc, hm, hl⟩ := h
  cases e
  rcases hl with rfl | ⟨g, off, rfl, hl⟩
  · simp at hj
  · exact ⟨g, off, rfl, hl j x hj⟩
theorem FView.nil (w : World) : FView w (.slice none 0 0) [] := ⟨none, 0, rfl, Nat.le_refl _, by unfold maxLen; omega, .inl rfl⟩
def Places (l : List IN) : Prop := ∀ x ∈ l, -4611686018427387904 ≤ x.pl ∧ x.pl ≤ 4611686018427387904
end Go.Proofs.Ytlnapfeglbdecaa
namespace Go.Proofs.Ytlnapfeglbdecaa
open Go.RowKit

def ncells (l : List Int) : List Value := l.map (Value.int .i64)
theorem ncells_append (a b : List Int) : ncells (a ++ b) = ncells a ++ ncells b := by simp [ncells]
theorem ncells_len (l : List Int) : (ncells l).length = l.length := by simp [ncells]
theorem nan_any (x : Int) (w : World) : Calls Try.prog 91 #[.int .i64 x] w fun e w' => e = .returned (.bool false) ∧ w' = w := by
  go_enter Try.func91, Try.ntmps91
  go_wp2
  go_ret
  exact ⟨rfl, rfl⟩
theorem less_any (x y : Int) (w : World) : Calls Try.prog 78 #[.int .i64 x, .int .i64 y] w fun e w' => e = .returned (.bool (decide (x < y))) ∧ w' = w := by
  have G := hidIt (fun x W => nan_any x W)
  go_enter Try.func78, Try.ntmps78
  go_wp2_with (go_at_call 91; refine (G.out _ _).mono ?_; rintro e w' ⟨rfl, hww⟩; cases hww)
  all_goals go_ret
  all_goals exact ⟨by simp_all, rfl⟩
structure OnlyG (g : Nat) (w w' : World) : Prop where
  os : w'.os = w.os
  tape : w'.tape = w.tape
  output : w'.output = w.output
  size : w'.heap.size = w.heap.size
  block : ∀ k, k ≠ g → w'.heap[k]? = w.heap[k]?
theorem OnlyG.refl (g : Nat) (w : World) : OnlyG g w w := ⟨rfl, rfl, rfl, rfl, fun _ _ => rfl⟩
theorem OnlyG.trans {g : Nat} {a b c : World} (h : OnlyG g a b) (k : OnlyG g b c) : OnlyG g a c := ⟨k.os.trans h.os, k.tape.trans h.tape, k.output.trans h.output, k.size.trans h.size, fun i hi => (k.block i hi).trans (h.block i hi)⟩
theorem OnlyG.drewN {g : Nat} {a b : World} (h : OnlyG g a b) (q : Nat) : OnlyG g a (b.drewN q) := ⟨h.os, h.tape, h.output, h.size, h.block⟩
theorem OnlyG.set {g o : Nat} {a b : World} {u : Value} (h : OnlyG g a b) : OnlyG g a (b.setCell ⟨g, o, none⟩ u) :=
  ⟨h.os, h.tape, h.output, by simpa [World.setCell] using h.size, fun i hi => by rw [Below.heap_setCell _ _ _ _ hi]; exact h.block i hi⟩
theorem OnlyG.below {g B : Nat} {a b : World} (h : OnlyG g a b) (hg : B ≤ g) : Below B a b :=
  ⟨h.os, h.tape, h.output, by rw [h.size]; exact Nat.le_refl _, fun k hk => h.block k (by omega)⟩
def sort2 (x y : Int) (cs : Array Value) : Array Value := if y < x then (cs.setIfInBounds 1 (.int .i64 x)).setIfInBounds 0 (.int .i64 y) else cs
set_option maxRecDepth 8000 in
set_option maxHeartbeats 2000000 in
theorem isort_two (g cap : Nat) (x y : Int) (cs : Array Value) (w : World) (h : w.heap[g]? = some (.cells cs 3 (0, 0))) (h0 : cs[0]? = some (.int .i64 x)) (h1 : cs[1]? = some (.int .i64 y)) :
    Calls Try.prog 72 #[.slice (some ⟨g, 0, none⟩) 2 cap, .int .i64 0, .int .i64 2] w fun e w' => e = .returned (.tuple #[]) ∧ OnlyG g w w' ∧
      w'.heap[g]? = some (.cells (sort2 x y cs) 3 (0, 0)) := by
  have G := hidIt (fun x y W => less_any x y W)
  have c0 := cell_row h 0 h0
  have c1 := cell_row h 1 h1
  have H := hidIt h
  have hbl := cell_lt c0
  have f0 := frozen_row h
  clear h h0 h1
  have HY : Hid (y < x → sort2 x y cs = (cs.setIfInBounds 1 (.int .i64 x)).setIfInBounds 0 (.int .i64 y)) := fun h => by unfold sort2; rw [if_pos h]
  have HN : Hid (¬ y < x → sort2 x y cs = cs) := fun h => by unfold sort2; rw [if_neg h]
  generalize sort2 x y cs = cs' at *
  go_enter Try.func72, Try.ntmps72
  go_wp2
  go_loopw [6, 7] (fun i _ wr => (i = .int .i64 1 ∧ wr = w) ∨ (i = .int .i64 2 ∧ OnlyG g w wr ∧ wr.heap[g]? = some (.cells cs' 3 (0, 0)))) (fun i _ _ => 3 - (intOf i).toNat)
  case atStart => exact .inl ⟨rfl, rfl⟩
  case round =>
    rcases hrel with ⟨rfl, hww⟩ | ⟨rfl, h1, h2⟩
    · cases hww
      go_wp2
      go_loopw [7] (fun j wr => (j = .int .i64 1 ∧ wr = w) ∨ (j = .int .i64 0 ∧ y < x ∧ OnlyG g w wr ∧ wr.heap[g]? = some (.cells cs' 3 (0, 0)))) (fun j _ => (intOf j).toNat)
      case atStart => exact .inl ⟨rfl, rfl⟩
      case round =>
        rcases hrel with ⟨rfl, hww⟩ | ⟨rfl, hyx, h1, h2⟩
        · cases hww
          by_cases hlt : y < x
          · have G2 := hidIt (fun W => G.out y x W)
            rw [decide_eq_true hlt] at G2
            go_wp2
            go_quiet ((go_at_call 78; exact Calls.quiet_of_same (G2.out _)))
            go_wp2
            go_region
            go_wp2
            refine ⟨.inr ⟨rfl, hlt, ((OnlyG.refl g w).drewN _).set.set, ?_⟩, by simp [intOf]⟩
            rw [HY.out hlt]
            exact set_row (set_row H.out)
          · have G2 := hidIt (fun W => G.out y x W)
            rw [decide_eq_false hlt] at G2
            go_wp2
            go_quiet ((go_at_call 78; exact Calls.quiet_of_same (G2.out _)))
            go_wp2
            exact ⟨.inr ⟨rfl, (OnlyG.refl g w).drewN _, by rw [HN.out hlt]; exact H.out⟩, by simp [intOf]⟩
        · have HO := hidIt h1
          have H2 := hidIt h2
          clear h1 h2
          go_wp2
          go_quiet (fail)
          go_wp2
          exact ⟨.inr ⟨rfl, HO.out.drewN _, H2.out⟩, by simp [intOf]⟩
    · have HO := hidIt h1
      have H2 := hidIt h2
      clear h1 h2
      go_wp2
      go_end0
      exact ⟨rfl, HO.out, H2.out⟩
set_option maxRecDepth 8000 in
set_option maxHeartbeats 2000000 in
theorem isort_few (ao : Option Addr) (n cap : Nat) (hn : n ≤ 1) (w : World) :
    Calls Try.prog 72 #[.slice ao n cap, .int .i64 0, .int .i64 (n : Int)] w fun e w' => e = .returned (.tuple #[]) ∧ w' = w := by
  have hn' : ¬ (1 : Int) < (n : Int) := by omega
  go_enter Try.func72, Try.ntmps72
  go_wp2
  go_loopw [6, 7] (fun i _ wr => (i = .int .i64 1 ∧ wr = w)) (fun i _ _ => 3 - (intOf i).toNat)
  case atStart => exact ⟨rfl, rfl⟩
  case round =>
    obtain ⟨rfl, hww⟩ := hrel
    cases hww
    go_wp2
    go_end0
    exact ⟨rfl, rfl⟩
set_option maxRecDepth 8000 in
set_option maxHeartbeats 2000000 in
theorem len64_any (n : Nat) (hn : n ≤ 2) (w : World) : Calls Try.prog 82 #[.int .u64 (n : Int)] w fun e w' => (∃ k : Int, e = .returned (.int .i64 k)) ∧ w' = w := by
  have h : n = 0 ∨ n = 1 ∨ n = 2 := by omega
  rcases h with rfl | rfl | rfl
  all_goals
    go_enter Try.func82, Try.ntmps82
    go_wp2
    go_ret
    exact ⟨⟨_, rfl⟩, rfl⟩
set_option maxRecDepth 8000 in
set_option maxHeartbeats 2000000 in
theorem len_any (n : Nat) (hn : n ≤ 2) (w : World) : Calls Try.prog 66 #[.int .u64 (n : Int)] w fun e w' => (∃ k : Int, e = .returned (.int .i64 k)) ∧ w' = w := by
  have G := hidIt (len64_any n hn w)
  go_enter Try.func66, Try.ntmps66
  go_wp2_with (go_at_call 82; refine G.out.mono ?_; rintro e w' ⟨⟨k, rfl⟩, hww⟩; cases hww)
  go_ret
  exact ⟨⟨k, rfl⟩, rfl⟩
set_option maxRecDepth 8000 in
set_option maxHeartbeats 2000000 in
theorem pdq_any (ao : Option Addr) (n cap : Nat) (k : Int) (hn : n ≤ 2) (w : World) (Q : World → Prop) (h : Calls Try.prog 72 #[.slice ao n cap, .int .i64 0, .int .i64 (n : Int)] w fun e w' => e = .returned (.tuple #[]) ∧ Q w') :
    Calls Try.prog 65 #[.slice ao n cap, .int .i64 0, .int .i64 (n : Int), .int .i64 k] w fun e w' => e = .returned (.tuple #[]) ∧ Q w' := by
  have G := hidIt h
  have hn' : (n : Int) ≤ 12 := by omega
  clear h
  go_enter Try.func65, Try.ntmps65
  go_wp2
  go_loopw [1, 2] (fun a b wr => a = .int .i64 0 ∧ b = .int .i64 (n : Int) ∧ wr = w) (fun _ _ _ => 0)
  case atStart => exact ⟨rfl, rfl, rfl⟩
  case round =>
    obtain ⟨rfl, rfl, hww⟩ := hrel
    cases hww
    go_wp2_with (go_at_call 72; refine G.out.mono ?_; rintro e w' ⟨rfl, hQ⟩)
    refine bodyPost_ret (results_none rfl _ _ _) rfl ?_
    exact ⟨rfl, hQ⟩
set_option maxRecDepth 8000 in
set_option maxHeartbeats 2000000 in
theorem sort_any (ao : Option Addr) (n cap : Nat) (hn : n ≤ 2) (w : World) (Q : World → Prop) (h : Calls Try.prog 72 #[.slice ao n cap, .int .i64 0, .int .i64 (n : Int)] w fun e w' => e = .returned (.tuple #[]) ∧ Q w') :
    Calls Try.prog 50 #[.slice ao n cap] w fun e w' => e = .returned (.tuple #[]) ∧ Q w' := by
  have G1 := hidIt (len_any n hn w)
  have G2 := hidIt (fun k => pdq_any ao n cap k hn w Q h)
  clear h
  go_enter Try.func50, Try.ntmps50
  go_wp2_with (first | (go_at_call 66; refine G1.out.mono ?_; rintro e w' ⟨⟨k, rfl⟩, hww⟩; cases hww) | (go_at_call 65; refine (G2.out _).mono ?_; rintro e w' ⟨rfl, hQ⟩))
  go_end0
  exact ⟨rfl, hQ⟩
set_option maxRecDepth 8000 in
set_option maxHeartbeats 2000000 in
theorem compact_few (ao : Option Addr) (n cap : Nat) (hn : n ≤ 1) (w : World) :
    Calls Try.prog 51 #[.slice ao n cap] w fun e w' => e = .returned (.slice ao n cap) ∧ w' = w := by
  have hn' : (n : Int) < 2 := by omega
  go_enter Try.func51, Try.ntmps51
  go_wp2
  go_ret
  exact ⟨rfl, rfl⟩
set_option maxRecDepth 8000 in
set_option maxHeartbeats 2000000 in
theorem compact_two (g cap : Nat) (x y : Int) (hne : x ≠ y) (w : World) (c0 : w.cell? ⟨g, 0, none⟩ = some (.int .i64 x)) (c1 : w.cell? ⟨g, 1, none⟩ = some (.int .i64 y)) :
    Calls Try.prog 51 #[.slice (some ⟨g, 0, none⟩) 2 cap] w fun e w' => e = .returned (.slice (some ⟨g, 0, none⟩) 2 cap) ∧ ∃ q, w' = w.drewN q := by
  have hne' : (y == x) = false := by simpa using fun h => hne h.symm
  go_enter Try.func51, Try.ntmps51
  go_wp2
  go_loopw [3] (fun k wr => (k = .int .i64 1 ∨ k = .int .i64 2) ∧ ∃ q, wr = w.drewN q) (fun k _ => 3 - (intOf k).toNat)
  case atStart => exact ⟨.inl rfl, 0, rfl⟩
  case round =>
    obtain ⟨hk, q, rfl⟩ := hrel
    rcases hk with rfl | rfl
    · go_wp2
      try go_quiet (fail)
      try go_wp2
      exact ⟨⟨.inr rfl, _, rfl⟩, by simp [intOf]⟩
    · go_wp2
      go_ret
      exact ⟨rfl, _, rfl⟩
set_option maxRecDepth 8000 in
theorem run_clear1 (w : World) (nq g cap : Nat) (x : Int) (c1 : w.cell? ⟨g, 1, none⟩ = some (.int .i64 x)) (f0 : ∀ j, w.frozen? ⟨g, j, none⟩ = false) :
    (Builtin.clear_ #[25] 0 #[.slice (some ⟨g, 1, none⟩) 1 (cap - 1)]).run Try.prog (w.drewN nq) = .ok (.tuple #[]) ((w.drewN nq).setCell ⟨g, 1, none⟩ (.int .i64 0)) := by
  have := Go.Lib.run_clear_slice (P := Try.prog) (w.drewN nq) 25 3 0 (.int .i64 0) Try.underlying25 (fun _ => rfl) rfl rfl g 1 1 (cap - 1) (by omega)
    (by
      intro j hj
      obtain rfl : j = 0 := by omega
      have e : (w.drewN nq).cell? ⟨g, 1 + 0, none⟩ = some (.int .i64 x) := c1
      rw [e]
      rfl) (fun j _ => f0 (1 + j))
  exact this
set_option maxRecDepth 8000 in
set_option maxHeartbeats 2000000 in
theorem compact_same (g cap : Nat) (x : Int) (cs : Array Value) (hc2 : 2 ≤ cap) (hcm : cap ≤ 2 ^ 63 - 1) (w : World) (h : w.heap[g]? = some (.cells cs 3 (0, 0))) (h0 : cs[0]? = some (.int .i64 x)) (h1 : cs[1]? = some (.int .i64 x)) :
    Calls Try.prog 51 #[.slice (some ⟨g, 0, none⟩) 2 cap] w fun e w' => e = .returned (.slice (some ⟨g, 0, none⟩) 1 cap) ∧ OnlyG g w w' ∧ ∃ u, w'.heap[g]? = some (.cells (cs.setIfInBounds 1 u) 3 (0, 0)) := by
  have c0 := cell_row h 0 h0
  have c1 := cell_row h 1 h1
  have H := hidIt h
  have hbl := cell_lt c0
  have f0 := frozen_row h
  clear h h0 h1
  go_enter Try.func51, Try.ntmps51
  go_wp2
  go_loopw [3] (fun k wr => k = .int .i64 1 ∧ wr = w) (fun k _ => 3 - (intOf k).toNat)
  case atStart => exact ⟨rfl, rfl⟩
  case round =>
    obtain ⟨rfl, hww⟩ := hrel
    cases hww
    go_wp2
    go_quiet (fail)
    go_wp2
    go_loopw [3, 5] (fun k k2 wr => k = .int .i64 1 ∧ k2 = .int .i64 1 ∧ wr = w.drewN nq) (fun _ _ _ => 0)
    case atStart => exact ⟨rfl, rfl, rfl⟩
    case round =>
      obtain ⟨rfl, rfl, rfl⟩ := hrel
      have hcl := run_clear1 w nq g cap x c1 f0
      go_wp2
      go_ret
      refine ⟨rfl, ?_, .int .i64 0, ?_⟩
      · exact ((OnlyG.refl g w).drewN nq).set
      · exact set_row H.out
end Go.Proofs.Ytlnapfeglbdecaa
namespace Go.Proofs.Ytlnapfeglbdecaa
open Go.RowKit

def bcellsB (d : List Bool) : Array Value := (d.map Value.bool).toArray
structure LdP (bl bb gl : Nat) (v : Value) (l : List IN) (d : List Bool) (w : World) : Prop where
  box : w.heap[bl]? = some (.cells #[v] 44 (0, 0))
  bit : w.heap[bb]? = some (.cells #[.slice (some ⟨gl, 0, none⟩) l.length l.length] 22 (0, 0))
  row : w.heap[gl]? = some (.cells (bcellsB d) 4 (0, 0))
  len : d.length = l.length
theorem LdP.below {bl bb gl : Nat} {v : Value} {l : List IN} {d : List Bool} {w w' : World} (h : LdP bl bb gl v l d w) (hb : Below w.heap.size w w') : LdP bl bb gl v l d w' :=
  ⟨(hb.block _ (Array.getElem?_eq_some_iff.1 h.box).1).trans h.box, (hb.block _ (Array.getElem?_eq_some_iff.1 h.bit).1).trans h.bit, (hb.block _ (Array.getElem?_eq_some_iff.1 h.row).1).trans h.row, h.len⟩
theorem LdP.drewN {bl bb gl : Nat} {v : Value} {l : List IN} {d : List Bool} {w : World} (h : LdP bl bb gl v l d w) (q : Nat) : LdP bl bb gl v l d (w.drewN q) := ⟨h.box, h.bit, h.row, h.len⟩
theorem made_bools (n : Nat) : madeCells #[Value.bool false] n = bcellsB (List.replicate n false) := by
  apply Array.toList_inj.1
  rw [toList_madeCells_one]
  simp [bcellsB]
theorem Try.infoB : (Try.prog.info? 4).map (fun i => (i.zero, i.size, i.bytes)) = some (some (.bool false), 1, 1) := by kernel_rfl
end Go.Proofs.Ytlnapfeglbdecaa
