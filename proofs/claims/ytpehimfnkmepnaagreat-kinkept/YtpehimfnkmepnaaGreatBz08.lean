import Derived.Test.YtpehimfnkmepnaaGreatBz07
set_option maxRecDepth 8000
set_option maxHeartbeats 40000000
namespace Go.Proofs.YtpehimfnkmepnaaGreat
open Go.RowKit
theorem zEn (op : Int) (w : World) : Calls Tryz.prog 166 #[.int .i64 op] w fun e w' => e = .returned (.bool (decide (kd op = 6))) ∧ w' = w := by
 have hk := zJq op
 by_cases h1 : 153 ≤ op
 · by_cases h2 : op ≤ 167
   · rw [decide_eq_true (hk.2 (by omega))]
     clear hk
     go_enter Tryz.func166, Tryz.ntmps166
     go_wp2
     go_ret
     exact ⟨rfl, rfl⟩
   · by_cases h3 : op = 198
     · subst h3
       rw [decide_eq_true (hk.2 (by omega))]
       clear hk
       go_enter Tryz.func166, Tryz.ntmps166
       go_wp2
       go_ret
       exact ⟨rfl, rfl⟩
     · by_cases h4 : op = 199
       · subst h4
         rw [decide_eq_true (hk.2 (by omega))]
         clear hk
         go_enter Tryz.func166, Tryz.ntmps166
         go_wp2
         go_ret
         exact ⟨rfl, rfl⟩
       · rw [decide_eq_false (fun h => by have := hk.1 h; omega)]
         clear hk
         have h3' : (op == 198) = false := by simpa using h3
         have h4' : (op == 199) = false := by simpa using h4
         go_enter Tryz.func166, Tryz.ntmps166
         go_wp2
         go_ret
         exact ⟨rfl, rfl⟩
 · rw [decide_eq_false (fun h => by have := hk.1 h; omega)]
   clear hk
   have h3' : (op == 198) = false := by simp; omega
   have h4' : (op == 199) = false := by simp; omega
   go_enter Tryz.func166, Tryz.ntmps166
   go_wp2
   go_ret
   exact ⟨rfl, rfl⟩
theorem zBl (w : World) (o : Obj) : Below w.heap.size w (w.alloc o) := (Below.refl _ _).alloc (Nat.le_refl _) o
theorem zR7 {α : Type} (row : α → List Value) (k : Nat) (hk : ∀ x, (row x).length = k) : ∀ (l : List α) (j : Nat) (x : α) (i : Nat), l[j]? = some x → i < k → (l.flatMap row)[j * k + i]? = (row x)[i]? := by
 intro l
 induction l with
 | nil => intro j x i h; simp at h
 | cons y l ih =>
   intro j x i h hi
   rw [List.flatMap_cons]
   cases j with
   | zero =>
     simp at h; subst h
     rw [Nat.zero_mul, Nat.zero_add, List.getElem?_append_left (by rw [hk]; exact hi)]
   | succ j =>
     simp at h
     rw [List.getElem?_append_right (by rw [hk, Nat.succ_mul]; omega), hk, show (j + 1) * k + i - k = j * k + i by rw [Nat.succ_mul]; omega]
     exact ih j x i h hi
theorem zAg {w : World} {b : Nat} {cs : Array Value} {T : TypeId} (h : w.heap[b]? = some (.cells cs T (0, 0))) (j : Nat) {v : Value} (hv : cs[j]? = some v) : w.cell? ⟨b, j, none⟩ = some v := by
 rw [cell_of_row w b j _ T (0, 0) h]; exact hv
def in5 (n lo hi : Int) : Bool := decide (lo ≤ n) && decide (n ≤ hi)
theorem rin (n lo hi : Int) (w : World) : Calls Tryz.prog 197 #[.int .i64 n, .int .i64 lo, .int .i64 hi] w fun e w' => e = .returned (.bool (in5 n lo hi)) ∧ w' = w := by
 unfold in5
 by_cases h1 : lo ≤ n
 · by_cases h2 : n ≤ hi <;>
   · go_enter Tryz.func197, Tryz.ntmps197
     go_wp2
     go_ret
     exact ⟨by simp [h1, h2], rfl⟩
 · go_enter Tryz.func197, Tryz.ntmps197
   go_wp2
   go_ret
   exact ⟨by rw [decide_eq_false (show ¬ lo ≤ n by omega)]; rfl, rfl⟩
def sg5 (op : Int) : Bool := decide (kd op = 3) || (decide (kd op = 5) || decide (kd op = 6))
theorem zHh (op : Int) (w : World) : Calls Tryz.prog 198 #[.int .i64 op] w fun e w' => e = .returned (.bool (sg5 op)) ∧ w' = w := by
 have gB := zA0 (zEn op w)
 have h3 := zQg op
 have h5 := zRk op
 unfold sg5
 by_cases e1 : op = 16
 · rw [decide_eq_true (h3.2 e1)]
   subst e1
   clear gB h3 h5
   go_enter Tryz.func198, Tryz.ntmps198
   go_wp2
   go_ret
   exact ⟨rfl, rfl⟩
 · rw [decide_eq_false (fun h => e1 (h3.1 h))]
   have e1' : (op == 16) = false := by simpa using e1
   by_cases e2 : op = 17
   · rw [decide_eq_true (h5.2 e2)]
     subst e2
     clear gB h3 h5
     go_enter Tryz.func198, Tryz.ntmps198
     go_wp2
     go_ret
     exact ⟨rfl, rfl⟩
   · rw [decide_eq_false (fun h => e2 (h5.1 h))]
     have e2' : (op == 17) = false := by simpa using e2
     clear h3 h5
     generalize decide (kd op = 6) = q at *
     go_enter Tryz.func198, Tryz.ntmps198
     go_wp2_with fail
     refine gB.out.mono ?_
     rintro e w' ⟨rfl, hww⟩; cases hww
     go_wp2
     go_ret
     exact ⟨by cases q <;> rfl, rfl⟩
def nrow (p : Int × ByteArray) : List Value := [.int .i64 p.1, .string p.2]
theorem zM4 (p : Int × ByteArray) : (nrow p).length = 2 := rfl
theorem zP6 : zCg.length = 71 := by rfl
theorem zSf {op : Int} {j : Nat} {p : Int × ByteArray} (hp : zCg[j]? = some p) (h : p.1 = op) (hn : ∀ q ∈ zCg.take j, q.1 ≠ op) : zFx op = p.2 := by
 unfold zFx
 have e : zCg.find? (fun p => p.1 == op) = some p := by
  rw [← List.take_append_drop j zCg, List.find?_append]
  have h1 : (zCg.take j).find? (fun p => p.1 == op) = none := List.find?_eq_none.2 (fun q hq => by simpa using hn q hq)
  obtain ⟨hj, rfl⟩ := List.getElem?_eq_some_iff.1 hp
  rw [h1, List.drop_eq_getElem_cons hj, List.find?_cons_of_pos (by simpa using h)]
  rfl
 rw [e]
def tab5 : Obj := .cells (zCg.flatMap nrow).toArray 219
theorem zQ0 {w : World} {g : Nat} (hg : w.heap[g]? = some tab5) {j : Nat} {p : Int × ByteArray} (hp : zCg[j]? = some p) : w.cell? ⟨g, j * 2, none⟩ = some (.int .i64 p.1) ∧ w.cell? ⟨g, j * 2 + 1, none⟩ = some (.string p.2) := by
 have h0 := zR7 nrow 2 zM4 zCg j p 0 hp (by decide)
 have h1 := zR7 nrow 2 zM4 zCg j p 1 hp (by decide)
 unfold tab5 at hg
 exact ⟨zAg hg (j * 2 + 0) (by simpa [nrow] using h0), zAg hg (j * 2 + 1) (by simpa [nrow] using h1)⟩
def zLj : Array (Nat × Value) := #[(0, .agg #[.int .i64 0, .string ⟨#[110, 111, 112]⟩]), (1, .agg #[.int .i64 1, .string ⟨#[110, 117, 108, 108]⟩]), (2, .agg #[.int .i64 2, .string ⟨#[99, 111, 110, 115, 116, 109, 49]⟩]), (3, .agg #[.int .i64 3, .string ⟨#[99, 111, 110, 115, 116, 48]⟩]), (4, .agg #[.int .i64 4, .string ⟨#[99, 111, 110, 115, 116, 49]⟩]), (5, .agg #[.int .i64 5, .string ⟨#[99, 111, 110, 115, 116, 50]⟩]), (6, .agg #[.int .i64 6, .string ⟨#[99, 111, 110, 115, 116, 51]⟩]), (7, .agg #[.int .i64 7, .string ⟨#[99, 111, 110, 115, 116, 52]⟩]), (8, .agg #[.int .i64 8, .string ⟨#[99, 111, 110, 115, 116, 53]⟩]), (9, .agg #[.int .i64 16, .string ⟨#[112, 117, 115, 104, 49]⟩]), (10, .agg #[.int .i64 17, .string ⟨#[112, 117, 115, 104, 50]⟩]), (11, .agg #[.int .i64 18, .string ⟨#[108, 100, 99]⟩]), (12, .agg #[.int .i64 21, .string ⟨#[105, 108, 111, 97, 100]⟩]), (13, .agg #[.int .i64 25, .string ⟨#[97, 108, 111, 97, 100]⟩]), (14, .agg #[.int .i64 46, .string ⟨#[105, 97, 108, 111, 97, 100]⟩]), (15, .agg #[.int .i64 50, .string ⟨#[97, 97, 108, 111, 97, 100]⟩]), (16, .agg #[.int .i64 54, .string ⟨#[105, 115, 116, 111, 114, 101]⟩]), (17, .agg #[.int .i64 58, .string ⟨#[97, 115, 116, 111, 114, 101]⟩]), (18, .agg #[.int .i64 79, .string ⟨#[105, 97, 115, 116, 111, 114, 101]⟩]), (19, .agg #[.int .i64 83, .string ⟨#[97, 97, 115, 116, 111, 114, 101]⟩]), (20, .agg #[.int .i64 87, .string ⟨#[112, 111, 112]⟩]), (21, .agg #[.int .i64 89, .string ⟨#[100, 117, 112]⟩]), (22, .agg #[.int .i64 95, .string ⟨#[115, 119, 97, 112]⟩]), (23, .agg #[.int .i64 96, .string ⟨#[97, 100, 100]⟩]), (24, .agg #[.int .i64 100, .string ⟨#[115, 117, 98]⟩]), (25, .agg #[.int .i64 104, .string ⟨#[109, 117, 108]⟩]), (26, .agg #[.int .i64 108, .string ⟨#[100, 105, 118]⟩]), (27, .agg #[.int .i64 112, .string ⟨#[114, 101, 109]⟩]), (28, .agg #[.int .i64 116, .string ⟨#[110, 101, 103]⟩]), (29, .agg #[.int .i64 120, .string ⟨#[115, 104, 108]⟩]), (30, .agg #[.int .i64 122, .string ⟨#[115, 104, 114]⟩]), (31, .agg #[.int .i64 124, .string ⟨#[117, 115, 104, 114]⟩]), (32, .agg #[.int .i64 126, .string ⟨#[97, 110, 100]⟩]), (33, .agg #[.int .i64 128, .string ⟨#[111, 114]⟩]), (34, .agg #[.int .i64 130, .string ⟨#[120, 111, 114]⟩]), (35, .agg #[.int .i64 132, .string ⟨#[105, 110, 99]⟩]), (36, .agg #[.int .i64 153, .string ⟨#[105, 102, 101, 113]⟩]), (37, .agg #[.int .i64 154, .string ⟨#[105, 102, 110, 101]⟩]), (38, .agg #[.int .i64 155, .string ⟨#[105, 102, 108, 116]⟩]), (39, .agg #[.int .i64 156, .string ⟨#[105, 102, 103, 101]⟩]), (40, .agg #[.int .i64 157, .string ⟨#[105, 102, 103, 116]⟩]), (41, .agg #[.int .i64 158, .string ⟨#[105, 102, 108, 101]⟩]), (42, .agg #[.int .i64 159, .string ⟨#[99, 109, 112, 101, 113]⟩]), (43, .agg #[.int .i64 160, .string ⟨#[99, 109, 112, 110, 101]⟩]), (44, .agg #[.int .i64 161, .string ⟨#[99, 109, 112, 108, 116]⟩]), (45, .agg #[.int .i64 162, .string ⟨#[99, 109, 112, 103, 101]⟩]), (46, .agg #[.int .i64 163, .string ⟨#[99, 109, 112, 103, 116]⟩]), (47, .agg #[.int .i64 164, .string ⟨#[99, 109, 112, 108, 101]⟩]), (48, .agg #[.int .i64 165, .string ⟨#[114, 101, 102, 101, 113]⟩]), (49, .agg #[.int .i64 166, .string ⟨#[114, 101, 102, 110, 101]⟩]), (50, .agg #[.int .i64 167, .string ⟨#[103, 111, 116, 111]⟩]), (51, .agg #[.int .i64 172, .string ⟨#[105, 114, 101, 116, 117, 114, 110]⟩]), (52, .agg #[.int .i64 176, .string ⟨#[97, 114, 101, 116, 117, 114, 110]⟩]), (53, .agg #[.int .i64 177, .string ⟨#[114, 101, 116, 117, 114, 110]⟩]), (54, .agg #[.int .i64 178, .string ⟨#[103, 101, 116, 115, 116, 97, 116, 105, 99]⟩]), (55, .agg #[.int .i64 179, .string ⟨#[112, 117, 116, 115, 116, 97, 116, 105, 99]⟩]), (56, .agg #[.int .i64 180, .string ⟨#[103, 101, 116, 102, 105, 101, 108, 100]⟩]), (57, .agg #[.int .i64 181, .string ⟨#[112, 117, 116, 102, 105, 101, 108, 100]⟩]), (58, .agg #[.int .i64 182, .string ⟨#[118, 105, 114, 116, 117, 97, 108]⟩]), (59, .agg #[.int .i64 184, .string ⟨#[115, 116, 97, 116, 105, 99]⟩]), (60, .agg #[.int .i64 187, .string ⟨#[110, 101, 119]⟩]), (61, .agg #[.int .i64 188, .string ⟨#[110, 101, 119, 105, 110, 116, 115]⟩]), (62, .agg #[.int .i64 189, .string ⟨#[110, 101, 119, 114, 101, 102, 115]⟩]), (63, .agg #[.int .i64 190, .string ⟨#[108, 101, 110, 103, 116, 104]⟩]), (64, .agg #[.int .i64 191, .string ⟨#[116, 104, 114, 111, 119]⟩]), (65, .agg #[.int .i64 192, .string ⟨#[99, 97, 115, 116]⟩]), (66, .agg #[.int .i64 193, .string ⟨#[105, 115, 97]⟩]), (67, .agg #[.int .i64 194, .string ⟨#[101, 110, 116, 101, 114]⟩]), (68, .agg #[.int .i64 195, .string ⟨#[101, 120, 105, 116]⟩]), (69, .agg #[.int .i64 198, .string ⟨#[105, 102, 110, 117, 108, 108]⟩]), (70, .agg #[.int .i64 199, .string ⟨#[105, 102, 115, 111, 109, 101]⟩])]
theorem zPt (w : World) : (Instr.buildSlice 220 71 zLj).run Tryz.prog w = .ok (.slice (some ⟨w.heap.size, 0, none⟩) 71 71) (w.alloc tab5) := by
 have hu : Tryz.prog.underlying 220 = some (.slice 219) := by kernel_rfl
 obtain ⟨i0, hi, hz0, hz1, hz2⟩ := info_parts (P := Tryz.prog) (e := 219) (z := .agg #[.int .i64 0, .string ⟨#[]⟩]) (size := 2) (bytes := 24) (by kernel_rfl)
 have hf : Instr.fill (fun i => some (i * 2, 2)) (Array.map (fun x => ([Value.int .i64 0, .string ⟨#[]⟩] : List Value)[x % 2]?.getD default) (Array.range 142)) zLj.toList = some (zCg.flatMap nrow).toArray := by kernel_rfl
 generalize zLj = ps at *
 unfold tab5
 generalize (zCg.flatMap nrow).toArray = res at *
 simp [Instr.buildSlice, run_underlying hu, sizeOf, typeInfo, zeroValue, hi, hz0, hz1, Value.cells]
 rw [hf]
 simp [newRow]
theorem zRr : (List.range 256).all (fun n => (kd (n : Int) == 0) == ((zFx (n : Int)).size == 0)) = true := by first | decide +kernel | kernel_rfl
theorem zQj : zCg.all (fun p => kd p.1 != 0) = true := by first | decide +kernel | kernel_rfl
theorem zRj {op : Int} (h : kd op = 0) : zFx op = ⟨#[]⟩ := zNy fun q hq e => by
 have := List.all_eq_true.1 zQj q hq
 rw [e, h] at this
 exact absurd this (by decide)
theorem zQ4 {op : Int} (h : kd op ≠ 0) : ((zFx op).toList == []) = false := by
 obtain ⟨h0, h1⟩ := zEg h
 have := List.all_eq_true.1 zRr op.toNat (List.mem_range.2 (by omega))
 rw [Int.toNat_of_nonneg h0] at this
 have hk : (kd op == 0) = false := by simpa using h
 rw [hk] at this
 have hs : (zFx op).size ≠ 0 := by simpa using this
 rw [Lib.toList_data]
 cases hd : (zFx op).data.toList with
 | nil => exact absurd (by rw [Lib.size_eq, hd]; rfl) hs
 | cons a l => rfl
def zHx : Prop := ∀ (op : Int) (W : World), Calls Tryz.prog 167 #[.int .i64 op] W fun e w' => e = .returned (.string (zFx op)) ∧ Below W.heap.size W w'
theorem sz_two {op : Int} (h : op = 16 ∨ op = 18 ∨ op = 21 ∨ op = 25 ∨ op = 54 ∨ op = 58 ∨ op = 188) : sz op = 2 := by
 rcases h with rfl | rfl | rfl | rfl | rfl | rfl | rfl <;> decide
theorem sz_thr {op : Int} (h : op = 17 ∨ op = 132 ∨ op = 178 ∨ op = 179 ∨ op = 180 ∨ op = 181 ∨ op = 182 ∨ op = 184 ∨ op = 187 ∨ op = 189 ∨ op = 192 ∨ op = 193) : sz op = 3 := by
 rcases h with rfl | rfl | rfl | rfl | rfl | rfl | rfl | rfl | rfl | rfl | rfl | rfl <;> decide
theorem sz_six {op : Int} (h : kd op = 6) : sz op = 3 := by unfold sz; rw [h]; rfl
theorem zRg {op : Int} (h1 : ¬ (op = 16 ∨ op = 18 ∨ op = 21 ∨ op = 25 ∨ op = 54 ∨ op = 58 ∨ op = 188)) (h2 : ¬ (op = 17 ∨ op = 132 ∨ op = 178 ∨ op = 179 ∨ op = 180 ∨ op = 181 ∨ op = 182 ∨ op = 184 ∨ op = 187 ∨ op = 189 ∨ op = 192 ∨ op = 193)) (h3 : kd op ≠ 6) : kd op = 0 ∨ kd op = 1 := by
 unfold kd at h3 ⊢
 repeat' split
 all_goals first | omega | (simp_all; omega) | simp_all
theorem zJg (hN : zHx) (op : Int) (w : World) : Calls Tryz.prog 143 #[.int .i64 op] w fun e w' => e = .returned (.int .i64 (sz op : Nat)) ∧ Below w.heap.size w w' := by
 have gN := zA0 (hN op w)
 have gB := zA0 (zEn op w)
 have B0 := zA0 (Below.refl w.heap.size w)
 by_cases h1 : op = 16 ∨ op = 18 ∨ op = 21 ∨ op = 25 ∨ op = 54 ∨ op = 58 ∨ op = 188
 · rw [sz_two h1]
   clear gN gB hN
   rcases h1 with rfl | rfl | rfl | rfl | rfl | rfl | rfl
   all_goals
    go_enter Tryz.func143, Tryz.ntmps143
    go_wp2
    go_ret
    exact ⟨rfl, B0.out⟩
 · by_cases h2 : op = 17 ∨ op = 132 ∨ op = 178 ∨ op = 179 ∨ op = 180 ∨ op = 181 ∨ op = 182 ∨ op = 184 ∨ op = 187 ∨ op = 189 ∨ op = 192 ∨ op = 193
   · rw [sz_thr h2]
     clear gN gB hN h1
     rcases h2 with rfl | rfl | rfl | rfl | rfl | rfl | rfl | rfl | rfl | rfl | rfl | rfl
     all_goals
      go_enter Tryz.func143, Tryz.ntmps143
      go_wp2
      go_ret
      exact ⟨rfl, B0.out⟩
   · have n16 : (op == 16) = false := by simp; omega
     have n18 : (op == 18) = false := by simp; omega
     have n21 : (op == 21) = false := by simp; omega
     have n25 : (op == 25) = false := by simp; omega
     have n54 : (op == 54) = false := by simp; omega
     have n58 : (op == 58) = false := by simp; omega
     have n188 : (op == 188) = false := by simp; omega
     have n17 : (op == 17) = false := by simp; omega
     have n132 : (op == 132) = false := by simp; omega
     have n178 : (op == 178) = false := by simp; omega
     have n179 : (op == 179) = false := by simp; omega
     have n180 : (op == 180) = false := by simp; omega
     have n181 : (op == 181) = false := by simp; omega
     have n182 : (op == 182) = false := by simp; omega
     have n184 : (op == 184) = false := by simp; omega
     have n187 : (op == 187) = false := by simp; omega
     have n189 : (op == 189) = false := by simp; omega
     have n192 : (op == 192) = false := by simp; omega
     have n193 : (op == 193) = false := by simp; omega
     by_cases h3 : kd op = 6
     · rw [sz_six h3]
       rw [decide_eq_true h3] at gB
       clear gN hN h1 h2 h3
       go_enter Tryz.func143, Tryz.ntmps143
       go_wp2_with fail
       refine gB.out.mono ?_
       rintro e w' ⟨rfl, hww⟩; cases hww
       go_wp2
       go_ret
       exact ⟨rfl, B0.out⟩
     · rw [decide_eq_false h3] at gB
       rcases zRg h1 h2 h3 with h4 | h4
       · rw [show sz op = 0 from (zKj op).2 h4]
         rw [zRj h4] at gN
         clear hN h1 h2 h3 h4
         go_enter Tryz.func143, Tryz.ntmps143
         go_wp2_with fail
         refine gB.out.mono ?_
         rintro e w' ⟨rfl, hww⟩; cases hww
         go_wp2_with fail
         refine gN.out.mono ?_
         rintro e w2 ⟨rfl, b2⟩
         have B2 := zA0 b2
         clear b2
         go_wp2
         go_ret
         exact ⟨rfl, B2.out⟩
       · rw [show sz op = 1 by unfold sz; rw [h4]; rfl]
         have hy := zQ4 (op := op) (by omega)
         generalize zFx op = s at *
         clear hN h1 h2 h3 h4
         go_enter Tryz.func143, Tryz.ntmps143
         go_wp2_with fail
         refine gB.out.mono ?_
         rintro e w' ⟨rfl, hww⟩; cases hww
         go_wp2_with fail
         refine gN.out.mono ?_
         rintro e w2 ⟨rfl, b2⟩
         have B2 := zA0 b2
         clear b2
         go_wp2
         go_ret
         exact ⟨rfl, B2.out⟩
theorem shr8 (a : Int) (W : World) : (Op.shift .shr .i64 a .u64 8).run Tryz.prog W = .ok (.int .i64 (a / 256)) W := by
 have h2 : min (8 : Int).toNat IntKind.i64.bits = 8 := by decide
 have h3 : (0 : Int) ≤ 2 ^ 8 := by decide
 simp only [Op.shift, if_neg (show ¬ (8 : Int) < 0 by decide), h2, Sem.run_pure, Int.fdiv_eq_ediv_of_nonneg _ h3]
 rfl
theorem zLw {v v' : Value} {w w' : World} {o : Obj} (h : Step v (w.alloc o) v' w') : Step v w v' w' := (Step.of_below (zA2 w o)).trans h
theorem zDt {w : World} {B e s n : Nat} {v : Value} {xs : List Value} (h : w.ownsRow B e s v n xs) (o : Obj) : (w.alloc o).ownsRow B e s v n xs := zBx h (zA2 w o)
end Go.Proofs.YtpehimfnkmepnaaGreat
