/- []rune(s) and back, said of whatever world; the pieces that are read. -/
import Derived.Test.YtnnoifofgbibmaaDoorAgT
import Derived.Test.YtnnoifofgbibmaaDoorNum
namespace Go.Proofs.YtnnoifofgbibmaaDoor
open Go.RowKit

def cvV (s : ByteArray) (w : World) : Value := .slice (some ⟨w.heap.size, 0, none⟩) (runesZ s).length (grownCap w (runesZ s).length 0 21)
def cvW (s : ByteArray) (w : World) : World := w.drew.alloc (.cells (((runesZ s).map (Value.int .i32)).toArray ++ Array.replicate (grownCap w (runesZ s).length 0 21 - (runesZ s).length) (.int .i32 0)) 21)
theorem conv_eq (s : ByteArray) : Conv.runesFrom s s.size 0 #[] = ((runesZ s).map (Value.int .i32)).toArray := by rw [conv_runes]; simp [runesZ]
theorem cv1 (s : ByteArray) (hs : s.size ≤ 70368744177664) (wx : World) : (convert 9 46 (.string s)).run Tryd.prog wx = .ok (cvV s wx) (cvW s wx) := by
  have hl := runesFrom_len s s.size 0
  have hz : (Conv.runesFrom s s.size 0 #[]).size = (runesZ s).length := by rw [conv_eq]; simp
  have h1 := run_runes_of_string (P := Tryd.prog) wx 9 46 21 s Tryd.underlying9 Tryd.underlying46 Tryd.underlying21 (by rw [hz]; exact Nat.le_trans hl hs)
  rw [hz, conv_eq] at h1
  exact h1
theorem cvW_below (s : ByteArray) (w : World) : Below w.heap.size w (cvW s w) := (Below.refl _ _).drew.alloc (Nat.le_refl _) _
theorem cvW_lt (s : ByteArray) (w : World) : w.heap.size < (cvW s w).heap.size := by simp [cvW]
theorem cv2 (s : ByteArray) (wx w' : World) (h : w'.heap[wx.heap.size]? = (cvW s wx).heap[wx.heap.size]?) : (convert 46 9 (cvV s wx)).run Tryd.prog w' = .ok (.string (reStr s)) w' := by
  unfold cvV
  rw [run_convert_runes_string _ 46 9 21 _ _ _ Tryd.underlying46 Tryd.underlying21 Tryd.underlying9]
  have hb : w'.heap[wx.heap.size]? = some (.cells (((runesZ s).map (Value.int .i32)).toArray ++ Array.replicate (grownCap wx (runesZ s).length 0 21 - (runesZ s).length) (.int .i32 0)) 21 (0, 0)) := by
    rw [h]; exact heap_alloc_new wx.drew _
  rw [run_runesToString (P := Tryd.prog) _ _ _ _ (runesZ s) ?_, runesBytes_uAll _ (runesZ_ok s)]
  · rfl
  · have hh := run_loadCells_list (P := Tryd.prog) w' ⟨wx.heap.size, 0, none⟩ ((runesZ s).map (Value.int .i32)) (fun j v hj => by
      have e : (⟨wx.heap.size, 0, none⟩ : Addr).add j = ⟨wx.heap.size, j, none⟩ := by unfold Addr.add; split <;> simp_all
      have hj' : j < (runesZ s).length := by have := (List.getElem?_eq_some_iff.1 hj).1; simpa using this
      have hc := cell_of_row w' wx.heap.size j _ 21 (0, 0) hb
      rw [e, hc, Array.getElem?_append_left (by simpa using hj')]
      simpa using hj)
    simpa using hh

/-- A record as it lies among the others. -/
theorem rec_split (A Y : List Int) (p : PartD) : A ++ (recZ p ++ Y) = A ++ (be p.n 8 ++ (wtextZ (fewZ (reStr p.s)) ++ (be (p.lr.length : Nat) 4 ++ (p.lr ++ Y)))) := by
  unfold recZ; simp

theorem rnum8_at (pr : Nat) (v : Value) (A Y : List Int) (n : Int) (w : World) (h : IsR pr w v (A ++ (be n 8 ++ Y)) A.length 0) (h0 : -9223372036854775808 ≤ n) (h1 : n ≤ 9223372036854775807) :
    Calls Tryd.prog 27 #[.pointer (some ⟨pr, 0, none⟩), .int .i64 8] w fun e w' => e = .returned (.int .i64 n) ∧ IsR pr w' v (A ++ (be n 8 ++ Y)) (A.length + 8) 0 ∧ Only pr w w' := by
  have := rnum_any pr v _ A.length 0 8 w h
  have ht := tk_at A (be n 8) Y
  rw [be_len] at ht
  rw [show min (max (8 : Int) 1) 8 = ((8 : Nat) : Int) by decide, ht] at this
  rwa [show IntKind.i64.wrap (beVal (be n 8)) = n from wrap_be8 n h0 h1] at this
theorem rnum4_at (pr : Nat) (v : Value) (A Y : List Int) (n : Nat) (w : World) (h : IsR pr w v (A ++ (be (n : Int) 4 ++ Y)) A.length 0) (h1 : n ≤ 1048576) :
    Calls Tryd.prog 27 #[.pointer (some ⟨pr, 0, none⟩), .int .i64 4] w fun e w' => e = .returned (.int .i64 (n : Int)) ∧ IsR pr w' v (A ++ (be (n : Int) 4 ++ Y)) (A.length + 4) 0 ∧ Only pr w w' := by
  have := rnum_any pr v _ A.length 0 4 w h
  have ht := tk_at A (be (n : Int) 4) Y
  rw [be_len] at ht
  rw [show min (max (4 : Int) 1) 8 = ((4 : Nat) : Int) by decide, ht] at this
  rwa [show IntKind.i64.wrap (beVal (be (n : Int) 4)) = (n : Int) by rw [beVal_be, show (256 : Int) ^ 4 = 4294967296 by decide, show (n : Int) % 4294967296 = n by omega]; exact wraps_small _ (by omega) (by omega)] at this
theorem rtext_at_any (pr : Nat) (v : Value) (A Y : List Int) (s : ByteArray) (w : World) (h : IsR pr w v (A ++ (wtextZ (fewZ (reStr s)) ++ Y)) A.length 0) :
    Calls Tryd.prog 15 #[.pointer (some ⟨pr, 0, none⟩)] w fun e w' => e = .returned (.string (fewZ (reStr s))) ∧ IsR pr w' v (A ++ (wtextZ (fewZ (reStr s)) ++ Y)) (A.length + (wtextZ (fewZ (reStr s))).length) 0 ∧ Only pr w w' := by
  have := rtext_any pr v _ A.length 0 w h
  rwa [rtext_at] at this
theorem rbytes_at (pr : Nat) (v : Value) (A X Y : List Int) (w : World) (h : IsR pr w v (A ++ (X ++ Y)) A.length 0) (hl : (A ++ (X ++ Y)).length ≤ 140737488355328) :
    Calls Tryd.prog 16 #[.pointer (some ⟨pr, 0, none⟩), .int .i64 (X.length : Nat)] w fun e w' => ∃ v', e = .returned v' ∧ w'.ownsRow w.heap.size 5 1 v' X.length (bcells X) ∧ IsR pr w' v (A ++ (X ++ Y)) (A.length + X.length) 0 ∧ Only pr w w' := by
  have := rbytes_any pr v _ A.length 0 (X.length : Nat) w h hl
  rwa [tk_at] at this
end Go.Proofs.YtnnoifofgbibmaaDoor
