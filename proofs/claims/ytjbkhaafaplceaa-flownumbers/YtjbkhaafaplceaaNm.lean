/- Name of package code: walked. -/
import Derived.Test.YtjbkhaafaplceaaG
import Derived.Laws.Tables
import Derived.Great.Walk
import Derived.Deep.Cut
import Derived.Deep.MidRow
namespace Go.Proofs.Ytjbkhaafaplceaa
open Go.RowKit
def names5 : List (Int × ByteArray) := [(0, ⟨#[110, 111, 112]⟩), (1, ⟨#[110, 117, 108, 108]⟩), (2, ⟨#[99, 111, 110, 115, 116, 109, 49]⟩), (3, ⟨#[99, 111, 110, 115, 116, 48]⟩), (4, ⟨#[99, 111, 110, 115, 116, 49]⟩), (5, ⟨#[99, 111, 110, 115, 116, 50]⟩), (6, ⟨#[99, 111, 110, 115, 116, 51]⟩), (7, ⟨#[99, 111, 110, 115, 116, 52]⟩), (8, ⟨#[99, 111, 110, 115, 116, 53]⟩), (16, ⟨#[112, 117, 115, 104, 49]⟩), (17, ⟨#[112, 117, 115, 104, 50]⟩), (18, ⟨#[108, 100, 99]⟩), (21, ⟨#[105, 108, 111, 97, 100]⟩), (25, ⟨#[97, 108, 111, 97, 100]⟩), (46, ⟨#[105, 97, 108, 111, 97, 100]⟩), (50, ⟨#[97, 97, 108, 111, 97, 100]⟩), (54, ⟨#[105, 115, 116, 111, 114, 101]⟩), (58, ⟨#[97, 115, 116, 111, 114, 101]⟩), (79, ⟨#[105, 97, 115, 116, 111, 114, 101]⟩), (83, ⟨#[97, 97, 115, 116, 111, 114, 101]⟩), (87, ⟨#[112, 111, 112]⟩), (89, ⟨#[100, 117, 112]⟩), (95, ⟨#[115, 119, 97, 112]⟩), (96, ⟨#[97, 100, 100]⟩), (100, ⟨#[115, 117, 98]⟩), (104, ⟨#[109, 117, 108]⟩), (108, ⟨#[100, 105, 118]⟩), (112, ⟨#[114, 101, 109]⟩), (116, ⟨#[110, 101, 103]⟩), (120, ⟨#[115, 104, 108]⟩), (122, ⟨#[115, 104, 114]⟩), (124, ⟨#[117, 115, 104, 114]⟩), (126, ⟨#[97, 110, 100]⟩), (128, ⟨#[111, 114]⟩), (130, ⟨#[120, 111, 114]⟩), (132, ⟨#[105, 110, 99]⟩), (153, ⟨#[105, 102, 101, 113]⟩), (154, ⟨#[105, 102, 110, 101]⟩), (155, ⟨#[105, 102, 108, 116]⟩), (156, ⟨#[105, 102, 103, 101]⟩), (157, ⟨#[105, 102, 103, 116]⟩), (158, ⟨#[105, 102, 108, 101]⟩), (159, ⟨#[99, 109, 112, 101, 113]⟩), (160, ⟨#[99, 109, 112, 110, 101]⟩), (161, ⟨#[99, 109, 112, 108, 116]⟩), (162, ⟨#[99, 109, 112, 103, 101]⟩), (163, ⟨#[99, 109, 112, 103, 116]⟩), (164, ⟨#[99, 109, 112, 108, 101]⟩), (165, ⟨#[114, 101, 102, 101, 113]⟩), (166, ⟨#[114, 101, 102, 110, 101]⟩), (167, ⟨#[103, 111, 116, 111]⟩), (172, ⟨#[105, 114, 101, 116, 117, 114, 110]⟩), (176, ⟨#[97, 114, 101, 116, 117, 114, 110]⟩), (177, ⟨#[114, 101, 116, 117, 114, 110]⟩), (178, ⟨#[103, 101, 116, 115, 116, 97, 116, 105, 99]⟩), (179, ⟨#[112, 117, 116, 115, 116, 97, 116, 105, 99]⟩), (180, ⟨#[103, 101, 116, 102, 105, 101, 108, 100]⟩), (181, ⟨#[112, 117, 116, 102, 105, 101, 108, 100]⟩), (182, ⟨#[118, 105, 114, 116, 117, 97, 108]⟩), (184, ⟨#[115, 116, 97, 116, 105, 99]⟩), (187, ⟨#[110, 101, 119]⟩), (188, ⟨#[110, 101, 119, 105, 110, 116, 115]⟩), (189, ⟨#[110, 101, 119, 114, 101, 102, 115]⟩), (190, ⟨#[108, 101, 110, 103, 116, 104]⟩), (191, ⟨#[116, 104, 114, 111, 119]⟩), (192, ⟨#[99, 97, 115, 116]⟩), (193, ⟨#[105, 115, 97]⟩), (194, ⟨#[101, 110, 116, 101, 114]⟩), (195, ⟨#[101, 120, 105, 116]⟩), (198, ⟨#[105, 102, 110, 117, 108, 108]⟩), (199, ⟨#[105, 102, 115, 111, 109, 101]⟩)]
def nameO (op : Int) : ByteArray := match names5.find? (fun p => p.1 == op) with | some p => p.2 | none => ⟨#[]⟩
theorem find_no {op : Int} (hn : ∀ q ∈ names5, q.1 ≠ op) : nameO op = ⟨#[]⟩ := by
  unfold nameO
  rw [List.find?_eq_none.2 (fun q hq => by simpa using hn q hq)]
theorem names_in : names5.all (fun p => decide (0 ≤ p.1) && decide (p.1 < 200)) = true := by first | decide +kernel | kernel_rfl
theorem name_out {op : Int} (h : op < 0 ∨ 200 ≤ op) : nameO op = ⟨#[]⟩ := find_no fun q hq e => by
  have := List.all_eq_true.1 names_in q hq
  simp only [Bool.and_eq_true, decide_eq_true_eq] at this
  omega
/-- The table, as the code lays it. -/
def zerosA : Array Value := Array.replicate 200 (.string ⟨#[]⟩)
def namesA : Array Value := ((List.range 200).map fun n => Value.string (nameO (n : Nat))).toArray
theorem namesA_size : namesA.size = 200 := by simp [namesA]
theorem namesA_at {n : Nat} (h : n < 200) : namesA[n]? = some (.string (nameO n)) := by
  unfold namesA
  rw [List.getElem?_toArray, List.getElem?_map, List.getElem?_range h]
  rfl
theorem namesA_one : namesA.all (·.oneCell') = true := by
  unfold namesA
  refine all_oneCell_toArray fun v hv => ?_
  simp only [List.mem_map] at hv
  obtain ⟨n, _, rfl⟩ := hv
  rfl
theorem wpList_buildTo {P : Program} {ops : Array Oper} {rest : List Oper} {o : Oper} {a : Act} {w : World} {Q : Exit → Act → World → Prop} (hg : o.guard = none) (t : TypeId) (parts : Array (Nat × Operand)) (ho : o.op = .build t parts) (dst : Option Tmp) (hdst : o.dst = dst)
    (cells : Array Value) (hf : P.built t (parts.map fun (i, x) => (i, a.eval x)).toList = some cells) (h : wpList P ops Q rest (a.put dst (.agg cells)) w) : wpList P ops Q (o :: rest) a w := by
  subst hdst
  refine wpList_build hg t parts ho (by rw [hf]; rfl) ?_
  rw [hf]
  exact h
end Go.Proofs.Ytjbkhaafaplceaa
