import Derived.Test.YthagaldpopnoeaaGreatDoorYB
import Derived.Lib.SlBytesRow

/- Reader: take, Left, Fail, End, NewReader. -/
namespace Go.Proofs.YthagaldpopnoeaaGreatDoor
open Go.RowKit

/-- Every old block but pr stands. -/
structure Only (pr : Nat) (w w' : World) : Prop where
  os : w'.os = w.os
  tape : w'.tape = w.tape
  output : w'.output = w.output
  size : w.heap.size ≤ w'.heap.size
  block : ∀ k, k < w.heap.size → k ≠ pr → w'.heap[k]? = w.heap[k]?
theorem Only.refl (pr : Nat) (w : World) : Only pr w w := ⟨rfl, rfl, rfl, Nat.le_refl _, fun _ _ _ => rfl⟩
theorem Only.trans {pr : Nat} {a b c : World} (h : Only pr a b) (k : Only pr b c) : Only pr a c :=
  ⟨k.os.trans h.os, k.tape.trans h.tape, k.output.trans h.output, Nat.le_trans h.size k.size, fun i hi hp => (k.block i (Nat.lt_of_lt_of_le hi h.size) hp).trans (h.block i hi hp)⟩
theorem Only.of_below {pr : Nat} {w w' : World} (h : Below w.heap.size w w') : Only pr w w' := ⟨h.os, h.tape, h.output, h.size, fun k hk _ => h.block k hk⟩
theorem Only.drewN (pr : Nat) (w : World) (q : Nat) : Only pr w (w.drewN q) := ⟨rfl, rfl, rfl, Nat.le_refl _, fun _ _ _ => rfl⟩
theorem Only.setCell (pr : Nat) (w : World) (o : Nat) (u : Value) : Only pr w (w.setCell ⟨pr, o, none⟩ u) :=
  ⟨rfl, rfl, rfl, by simp [World.setCell], fun k _ hp => Below.heap_setCell _ _ _ _ hp⟩
theorem Only.below {pr B : Nat} {w w' : World} (h : Only pr w w') (hB : B ≤ w.heap.size) (hp : B ≤ pr) : Below B w w' :=
  ⟨h.os, h.tape, h.output, h.size, fun k hk => h.block k (by omega) (by omega)⟩

/-- A reader at block pr over the bytes l, at the place a, with the refusal y (0: none). -/
structure IsR (pr : Nat) (w : World) (v : Value) (l : List Int) (a : Nat) (y : Int) : Prop where
  blk : w.heap[pr]? = some (.cells #[v, .int .i64 (a : Int), .int .i64 y] 123 (0, 0))
  view : View w v l
  le : a ≤ l.length

theorem IsR.lt {pr : Nat} {w : World} {v : Value} {l : List Int} {a : Nat} {y : Int} (h : IsR pr w v l a y) : pr < w.heap.size := (Array.getElem?_eq_some_iff.1 h.blk).1
theorem IsR.c0 {pr : Nat} {w : World} {v : Value} {l : List Int} {a : Nat} {y : Int} (h : IsR pr w v l a y) : w.cell? ⟨pr, 0, none⟩ = some v := by
  rw [cell_of_row w pr 0 _ 123 (0, 0) h.blk]; rfl
theorem IsR.c1 {pr : Nat} {w : World} {v : Value} {l : List Int} {a : Nat} {y : Int} (h : IsR pr w v l a y) : w.cell? ⟨pr, 1, none⟩ = some (.int .i64 (a : Int)) := by
  rw [cell_of_row w pr 1 _ 123 (0, 0) h.blk]; rfl
theorem IsR.c2 {pr : Nat} {w : World} {v : Value} {l : List Int} {a : Nat} {y : Int} (h : IsR pr w v l a y) : w.cell? ⟨pr, 2, none⟩ = some (.int .i64 y) := by
  rw [cell_of_row w pr 2 _ 123 (0, 0) h.blk]; rfl

/-- The bytes don't lie in the reader's own block. -/
theorem IsR.apart {pr : Nat} {w : World} {v : Value} {l : List Int} {a : Nat} {y : Int} (h : IsR pr w v l a y) {g off : Nat} (hl : Lies w g off l) (hne : l ≠ []) : g ≠ pr := by
  rintro rfl
  obtain ⟨x, t, rfl⟩ := List.exists_cons_of_ne_nil hne
  have := hl 0 x rfl
  rw [cell_of_row w g (off + 0) _ 123 (0, 0) h.blk] at this
  obtain ⟨ao, cap, rfl, _⟩ := h.view
  match off, this with
  | 0, this => simp at this
  | 1, this => simp at this
  | 2, this => simp at this
  | k + 3, this => simp at this

/-- Views of other memory stand while a reader goes on. -/
theorem View.only {pr : Nat} {w w' : World} {u : Value} {m : List Int} (hu : View w u m) (ho : Only pr w w') (hp : ∀ g off, Lies w g off m → m ≠ [] → g ≠ pr) : View w' u m := by
  obtain ⟨ao, cap, rfl, hc, hm, hy, hl⟩ := hu
  refine ⟨ao, cap, rfl, hc, hm, hy, ?_⟩
  rcases hl with h | ⟨g, off, e, hl⟩
  · exact .inl h
  · by_cases hne : m = []
    · exact .inl hne
    · refine .inr ⟨g, off, e, fun j x hj => ?_⟩
      have hg := hp g off hl hne
      have hlt : g < w.heap.size := World.block_lt_of_cell? w ⟨g, off + j, none⟩ (hl j x hj)
      rw [World.cell?_of_block (a := ⟨g, off + j, none⟩) (ho.block g hlt hg)]
      exact hl j x hj

theorem IsR.move {pr : Nat} {w w' : World} {v : Value} {l : List Int} {a a' : Nat} {y y' : Int} (h : IsR pr w v l a y) (ho : Only pr w w') (hb : w'.heap[pr]? = some (.cells #[v, .int .i64 (a' : Int), .int .i64 y'] 123 (0, 0))) (hle : a' ≤ l.length) : IsR pr w' v l a' y' :=
  ⟨hb, h.view.only ho (fun _ _ hl hne => h.apart hl hne), hle⟩
theorem IsR.below {pr : Nat} {w w' : World} {v : Value} {l : List Int} {a : Nat} {y : Int} (h : IsR pr w v l a y) (hb : Below w.heap.size w w') : IsR pr w' v l a y :=
  ⟨(hb.block pr h.lt).trans h.blk, h.view.below hb, h.le⟩

theorem set1 {pr : Nat} {w : World} {v : Value} {x y z : Value} (h : w.heap[pr]? = some (.cells #[v, x, y] 123 (0, 0))) : (w.setCell ⟨pr, 1, none⟩ z).heap[pr]? = some (.cells #[v, z, y] 123 (0, 0)) := by
  simp only [World.setCell, Array.getElem?_modify, if_pos, h, Option.map_some]
  simp
theorem set2 {pr : Nat} {w : World} {v : Value} {x y z : Value} (h : w.heap[pr]? = some (.cells #[v, x, y] 123 (0, 0))) : (w.setCell ⟨pr, 2, none⟩ z).heap[pr]? = some (.cells #[v, x, z] 123 (0, 0)) := by
  simp only [World.setCell, Array.getElem?_modify, if_pos, h, Option.map_some]
  simp

set_option maxRecDepth 8000 in
set_option maxHeartbeats 800000 in
theorem newR_any (v : Value) (l : List Int) (w : World) (hv : View w v l) (hlen : l.length ≤ 140737488355328) :
    Calls Tryz.prog 32 #[v] w fun e w' => Below w.heap.size w w' ∧ ∃ pr v', e = .returned (.pointer (some ⟨pr, 0, none⟩)) ∧ w.heap.size ≤ pr ∧ IsR pr w' v' l 0 0 ∧ (∀ k, v'.ownBlock = some k → w.heap.size ≤ k) := by
  have hby : AllBytes l := by obtain ⟨_, _, _, _, _, h, _⟩ := hv; exact h
  go_enter Tryz.func32, Tryz.ntmps32
  go_wp2_with (go_at_call 64; refine (clone_any _ l _ hv hlen).mono ?_; rintro e w1 ⟨b1, v1, rfl, o1⟩; obtain ⟨ao1, cap1, rfl⟩ := own_slice o1)
  go_ret
  have b2 : Below w1.heap.size w1 (w1.alloc (.cells #[.slice ao1 l.length cap1, .int .i64 0, .int .i64 0] 123)) := (Below.refl _ _).alloc (Nat.le_refl _) _
  exact ⟨b1.alloc b1.size _, w1.heap.size, _, rfl, b1.size, ⟨heap_alloc_new _ _, (View.of_own o1 hby).below b2, Nat.zero_le _⟩, fun k hk => (o1.lt k hk).1⟩

set_option maxRecDepth 8000 in
set_option maxHeartbeats 400000 in
theorem left_zero (pr : Nat) (v : Value) (l : List Int) (a : Nat) (y : Int) (w : World) (h : IsR pr w v l a y) (hy : y ≠ 0) :
    Calls Tryz.prog 154 #[.pointer (some ⟨pr, 0, none⟩)] w fun e w' => e = .returned (.int .i64 0) ∧ ∃ q, w' = w.drewN q := by
  have c2 := h.c2
  have hy2 : (y != 0) = true := by simpa using hy
  go_enter Tryz.func154, Tryz.ntmps154
  go_wp2
  go_ret
  exact ⟨rfl, 0, rfl⟩
set_option maxRecDepth 8000 in
set_option maxHeartbeats 400000 in
theorem left_any (pr : Nat) (v : Value) (l : List Int) (a : Nat) (w : World) (h : IsR pr w v l a 0) :
    Calls Tryz.prog 154 #[.pointer (some ⟨pr, 0, none⟩)] w fun e w' => e = .returned (.int .i64 ((l.length : Int) - a)) ∧ ∃ q, w' = w.drewN q := by
  have c0 := h.c0
  have c1 := h.c1
  have c2 := h.c2
  have hle := h.le
  obtain ⟨ao, cap, rfl, hc, hm, _⟩ := id h.view
  unfold maxLen at hm
  go_enter Tryz.func154, Tryz.ntmps154
  go_wp2
  go_quiet (fail)
  go_wp2
  go_ret
  exact ⟨rfl, _, rfl⟩

set_option maxRecDepth 8000 in
set_option maxHeartbeats 400000 in
theorem fail_any (pr : Nat) (v : Value) (l : List Int) (a : Nat) (y e : Int) (w : World) (h : IsR pr w v l a y) :
    Calls Tryz.prog 66 #[.pointer (some ⟨pr, 0, none⟩), .int .i64 e] w fun r w' => r = .returned (.tuple #[]) ∧ IsR pr w' v l a (if y = 0 then e else y) ∧ Only pr w w' := by
  have c2 := h.c2
  have hf := frozen_row h.blk 2
  by_cases hy : y = 0
  · subst hy
    rw [if_pos rfl]
    go_enter Tryz.func66, Tryz.ntmps66
    go_wp2
    go_end0
    exact ⟨rfl, h.move (Only.setCell _ _ _ _) (set2 h.blk) h.le, Only.setCell _ _ _ _⟩
  · rw [if_neg hy]
    have hy2 : (y == 0) = false := by simpa using hy
    go_enter Tryz.func66, Tryz.ntmps66
    go_wp2
    go_end0
    exact ⟨rfl, h, Only.refl _ _⟩

/-- What 'take' gives of the bytes l at the place a with the refusal y: the bytes, the new place, the new refusal. -/
def tk (l : List Int) (a : Nat) (y n : Int) : List Int × Nat × Int :=
  if y ≠ 0 ∨ n ≤ 0 then ([], a, y) else if (l.length : Int) - a < n then ([], l.length, 10) else ((l.drop a).take n.toNat, a + n.toNat, 0)

set_option maxRecDepth 8000 in
set_option maxHeartbeats 1600000 in
theorem take_any (pr : Nat) (v : Value) (l : List Int) (a : Nat) (y n : Int) (w : World) (h : IsR pr w v l a y) :
    Calls Tryz.prog 107 #[.pointer (some ⟨pr, 0, none⟩), .int .i64 n] w fun e w' => ∃ v', e = .returned v' ∧ View w' v' (tk l a y n).1 ∧ IsR pr w' v l (tk l a y n).2.1 (tk l a y n).2.2 ∧ Only pr w w' := by
  have c0 := h.c0
  have c1 := h.c1
  have c2 := h.c2
  have f1 := frozen_row h.blk 1
  have hle := h.le
  by_cases hy : y = 0
  · subst hy
    by_cases hn : n ≤ 0
    · rw [show tk l a 0 n = ([], a, 0) by unfold tk; rw [if_pos (.inr hn)]]
      go_enter Tryz.func107, Tryz.ntmps107
      go_wp2
      go_ret
      exact ⟨_, rfl, View.empty w, h, Only.refl _ _⟩
    · have HL := hidIt (left_any pr v l a w h)
      have hn' : 0 < n := by omega
      by_cases hs : (l.length : Int) - a < n
      · rw [show tk l a 0 n = ([], l.length, 10) by unfold tk; rw [if_neg (by omega), if_pos hs]]
        obtain ⟨ao, cap, rfl, hc, hm, _⟩ := id h.view
        have HF : Hid (∀ q, Calls Tryz.prog 66 #[.pointer (some ⟨pr, 0, none⟩), .int .i64 10] ((w.drewN q).setCell ⟨pr, 1, none⟩ (.int .i64 (l.length : Int))) fun r w' => r = .returned (.tuple #[]) ∧ IsR pr w' (.slice ao l.length cap) l l.length (if (0 : Int) = 0 then 10 else 0) ∧ Only pr ((w.drewN q).setCell ⟨pr, 1, none⟩ (.int .i64 (l.length : Int))) w') := by
          intro q
          have h1 : IsR pr ((w.drewN q).setCell ⟨pr, 1, none⟩ (.int .i64 (l.length : Int))) (.slice ao l.length cap) l l.length 0 :=
            h.move ((Only.drewN pr w q).trans (Only.setCell _ _ _ _)) (set1 (w := w.drewN q) h.blk) (Nat.le_refl _)
          exact fail_any pr _ l l.length 0 10 _ h1
        go_enter Tryz.func107, Tryz.ntmps107
        go_wp2_with fail
        refine HL.out.mono ?_
        rintro e w' ⟨rfl, q, rfl⟩
        go_wp2_with fail
        refine (HF.out q).mono ?_
        rintro e w2 ⟨rfl, h2, o2⟩
        go_wp2
        go_ret
        exact ⟨_, rfl, View.empty w2, h2, ((Only.drewN pr w q).trans (Only.setCell _ _ _ _)).trans o2⟩
      · rw [show tk l a 0 n = ((l.drop a).take n.toNat, a + n.toNat, 0) by unfold tk; rw [if_neg (by omega), if_neg hs]]
        obtain ⟨m, rfl⟩ := Int.eq_ofNat_of_zero_le (show 0 ≤ n by omega)
        rw [Int.toNat_natCast]
        have hal : a + m ≤ l.length := by omega
        have hV := h.view
        obtain ⟨ao, cap, rfl, hc, hm, hby, hl⟩ := id h.view
        obtain ⟨g, off, rfl, hl2⟩ : ∃ g off, ao = some ⟨g, off, none⟩ ∧ Lies w g off l := by
          rcases hl with e | h
          · rw [e] at hal; simp at hal; omega
          · exact h
        clear hl
        have hgp : g ≠ pr := h.apart hl2 (by rintro rfl; simp at hal; omega)
        have f1 := frozen_row h.blk 1
        have hcap : ((a : Int) + m) ≤ (cap : Int) := by omega
        have ham : IntKind.i64.wrap ((a : Int) + m) = (a : Int) + m := wraps_small _ (by omega) (by unfold maxLen at hm; omega)
        have hwa : IntKind.i64.wrap (a : Int) = (a : Int) := wraps_small _ (by omega) (by unfold maxLen at hm; omega)
        have hsl : ∀ wx, (Instr.slice 22 (.slice (some ⟨g, off, none⟩) l.length cap) (some (.int .i64 (a : Int))) (some (.int .i64 ((a : Int) + m))) none).run Tryz.prog wx = .ok (.slice (some ⟨g, off + a, none⟩) m (cap - a)) wx := by
          intro wx
          have := Lib.run_slice_window (P := Tryz.prog) wx 22 5 Tryz.underlying22 Tryz.sizeOf5 g off l.length cap a (a + m) (by omega) (by omega)
          simpa using this
        have HM := hidIt (h.move (a' := a + m) (y' := 0) (w' := w.setCell ⟨pr, 1, none⟩ (.int .i64 ((a : Int) + m))) (Only.setCell _ _ _ _) (by have := set1 (z := .int .i64 ((a : Int) + m)) h.blk; simpa using this) hal)
        have HV : Hid (Lies (w.setCell ⟨pr, 1, none⟩ (.int .i64 ((a : Int) + m))) g (off + a) ((l.drop a).take m)) := by
          intro j x hj
          have hj2 : l[a + j]? = some x := by
            rw [List.getElem?_take] at hj
            split at hj
            · rwa [List.getElem?_drop] at hj
            · cases hj
          have hlt : g < w.heap.size := World.block_lt_of_cell? w ⟨g, off + (a + j), none⟩ (hl2 _ _ hj2)
          rw [World.cell?_of_block (a := ⟨g, off + a + j, none⟩) ((Only.setCell pr w 1 _).block g hlt hgp), Nat.add_assoc]
          exact hl2 _ _ hj2
        clear hV hl2
        go_enter Tryz.func107, Tryz.ntmps107
        go_wp2_with fail
        refine HL.out.mono ?_
        rintro e w' ⟨rfl, q, rfl⟩
        go_wp2_with fail
        go_quiet (fail)
        go_wp2
        go_ret
        have hlm : ((l.drop a).take m).length = m := by rw [List.length_take, List.length_drop]; omega
        refine ⟨_, rfl, ⟨some ⟨g, off + a, none⟩, cap - a, by rw [hlm]; rfl, by rw [hlm]; omega, by omega, fun x hx => hby x (List.mem_of_mem_drop (List.mem_of_mem_take hx)), .inr ⟨g, off + a, rfl, HV.out⟩⟩, ⟨HM.out.blk, HM.out.view, HM.out.le⟩, ?_⟩
        exact ((Only.drewN pr w q).trans (Only.setCell _ _ _ _)).trans (Only.drewN _ _ _)
  · rw [show tk l a y n = ([], a, y) by unfold tk; rw [if_pos (.inl hy)]]
    have hy2 : (y != 0) = true := by simpa using hy
    go_enter Tryz.func107, Tryz.ntmps107
    go_wp2
    go_ret
    exact ⟨_, rfl, View.empty w, h, Only.refl _ _⟩

/-- The refusal and its place; or what is left. -/
def endZ (l : List Int) (a : Nat) (y : Int) : Int × Int := if y ≠ 0 then (y, a) else if a < l.length then (11, a) else (0, 0)

set_option maxRecDepth 8000 in
set_option maxHeartbeats 800000 in
theorem end_any (pr : Nat) (v : Value) (l : List Int) (a : Nat) (y : Int) (w : World) (h : IsR pr w v l a y) :
    Calls Tryz.prog 34 #[.pointer (some ⟨pr, 0, none⟩)] w fun e w' => e = .returned (.tuple #[.int .i64 (endZ l a y).1, .int .i64 (endZ l a y).2]) ∧ ∃ q, w' = w.drewN q := by
  have c0 := h.c0
  have c1 := h.c1
  have c2 := h.c2
  have hle := h.le
  obtain ⟨ao, cap, rfl, hc, hm, _⟩ := id h.view
  unfold maxLen at hm
  by_cases hy : y = 0
  · subst hy
    by_cases hs : a < l.length
    · rw [show endZ l a 0 = (11, (a : Int)) by unfold endZ; rw [if_neg (by simp), if_pos hs]]
      have hs' : (a : Int) < (l.length : Int) := by omega
      go_enter Tryz.func34, Tryz.ntmps34
      go_wp2
      go_quiet (fail)
      go_wp2
      go_quiet (fail)
      go_wp2
      go_ret2
      refine ⟨rfl, ?_⟩
      rw [World.drewN_drewN]
      exact ⟨_, rfl⟩
    · rw [show endZ l a 0 = (0, 0) by unfold endZ; rw [if_neg (by simp), if_neg hs]]
      have hs' : ¬ (a : Int) < (l.length : Int) := by omega
      go_enter Tryz.func34, Tryz.ntmps34
      go_wp2
      go_quiet (fail)
      go_wp2
      go_ret2
      exact ⟨rfl, _, rfl⟩
  · rw [show endZ l a y = (y, (a : Int)) by unfold endZ; rw [if_pos hy]]
    have hy2 : (y != 0) = true := by simpa using hy
    go_enter Tryz.func34, Tryz.ntmps34
    go_wp2
    go_quiet (fail)
    go_wp2
    go_ret2
    exact ⟨rfl, _, rfl⟩

set_option maxRecDepth 8000 in
set_option maxHeartbeats 800000 in
theorem rbytes_any (pr : Nat) (v : Value) (l : List Int) (a : Nat) (y n : Int) (w : World) (h : IsR pr w v l a y) (hlen : l.length ≤ 140737488355328) :
    Calls Tryz.prog 65 #[.pointer (some ⟨pr, 0, none⟩), .int .i64 n] w fun e w' => ∃ v', e = .returned v' ∧ w'.ownsRow w.heap.size 5 1 v' (tk l a y n).1.length (bcells (tk l a y n).1) ∧ IsR pr w' v l (tk l a y n).2.1 (tk l a y n).2.2 ∧ Only pr w w' := by
  have ht := take_any pr v l a y n w h
  have htl : (tk l a y n).1.length ≤ l.length := by
    unfold tk; split
    · simp
    · split
      · simp
      · simp only [List.length_take, List.length_drop]; omega
  generalize tk l a y n = T at *
  go_enter Tryz.func65, Tryz.ntmps65
  go_wp2_with fail
  refine ht.mono ?_
  rintro e w1 ⟨v1, rfl, V1, h1, o1⟩
  go_wp2_with fail
  refine (clone_any _ _ _ V1 (by omega)).mono ?_
  rintro e w2 ⟨b2, v2, rfl, ow2⟩
  go_wp2
  go_ret
  have hs1 := o1.size
  refine ⟨_, rfl, ⟨ow2.1, ?_⟩, h1.below b2, o1.trans (Only.of_below b2)⟩
  rcases ow2.2 with x | ⟨g, cap, cur, e, hB, r⟩
  · exact .inl x
  · exact .inr ⟨g, cap, cur, e, by omega, r⟩
end Go.Proofs.YthagaldpopnoeaaGreatDoor

/- Reader.Number and Reader.Text. -/
namespace Go.Proofs.YthagaldpopnoeaaGreatDoor
open Go.RowKit

/-- The number that bytes say, the highest first. -/
def beVal (bs : List Int) : Int := bs.foldl (fun n c => n * 256 + c) 0
theorem beVal_snoc (bs : List Int) (c : Int) : beVal (bs ++ [c]) = beVal bs * 256 + c := by simp [beVal]

theorem i64_or8 (x c : Int) (hx : x % 256 = 0) (h0 : 0 ≤ c) (h1 : c ≤ 255) (hl : -9223372036854775808 ≤ x) (hu : x ≤ 9223372036854775807) : bits .or .i64 x c = x + c := by
  have hA : ((x % 18446744073709551616).toNat : Int) = x % 18446744073709551616 := Int.toNat_of_nonneg (by omega)
  have hC : (c % 18446744073709551616).toNat = c.toNat := by omega
  have hj : (x % 18446744073709551616).toNat ||| c.toNat = (x % 18446744073709551616).toNat + c.toNat := nat_join 8 _ _ (by omega) (by omega)
  show IntKind.i64.wrap ((BitVec.ofInt 64 x ||| BitVec.ofInt 64 c).toNat : Int) = _
  rw [BitVec.toNat_or, BitVec.toNat_ofInt, BitVec.toNat_ofInt]
  rw [show ((2 ^ 64 : Nat) : Int) = 18446744073709551616 by decide, hC, hj, IntKind.wrap_i64]
  omega

theorem wrap_step (V : Int) (c : Int) (h0 : 0 ≤ c) (h1 : c ≤ 255) : bits .or .i64 (IntKind.i64.wrap (IntKind.i64.wrap V * 256)) c = IntKind.i64.wrap (V * 256 + c) := by
  rw [i64_or8 _ _ (by rw [IntKind.wrap_i64, IntKind.wrap_i64]; omega) h0 h1 (by rw [IntKind.wrap_i64]; omega) (by rw [IntKind.wrap_i64]; omega)]
  rw [IntKind.wrap_i64, IntKind.wrap_i64, IntKind.wrap_i64]
  omega

theorem wrap64_eq (n : Int) : wrap64 n = IntKind.i64.wrap n := by rw [IntKind.wrap_i64]; unfold wrap64; omega

set_option maxRecDepth 8000 in
set_option maxHeartbeats 1600000 in
theorem rnum_any (pr : Nat) (v : Value) (l : List Int) (a : Nat) (y bytes : Int) (w : World) (h : IsR pr w v l a y) :
    Calls Tryz.prog 108 #[.pointer (some ⟨pr, 0, none⟩), .int .i64 bytes] w fun e w' => e = .returned (.int .i64 (IntKind.i64.wrap (beVal (tk l a y (min (max bytes 1) 8)).1))) ∧
      IsR pr w' v l (tk l a y (min (max bytes 1) 8)).2.1 (tk l a y (min (max bytes 1) 8)).2.2 ∧ Only pr w w' := by
  have HW := hidIt (width_any bytes w)
  have HT := hidIt (take_any pr v l a y (min (max bytes 1) 8) w h)
  have htl : (tk l a y (min (max bytes 1) 8)).1.length ≤ 8 := by
    unfold tk; split
    · simp
    · split
      · simp
      · simp only [List.length_take, List.length_drop]; omega
  generalize hT : tk l a y (min (max bytes 1) 8) = T at *
  generalize min (max bytes 1) 8 = W at *
  clear hT h
  obtain ⟨bs, a', y'⟩ := T
  simp only at htl ⊢ HT
  go_enter Tryz.func108, Tryz.ntmps108
  go_wp2_with fail
  refine HW.out.mono ?_
  rintro e w' ⟨rfl, hww⟩; cases hww
  go_wp2_with fail
  refine HT.out.mono ?_
  rintro e w1 ⟨v1, rfl, V1, h1, o1⟩
  clear HT HW
  obtain ⟨ao, cap, rfl, hc, hm, hby, hl⟩ := V1
  go_wp2
  go_loop [5, 13] (fun n i => ∃ k : Nat, k ≤ bs.length ∧ i = .int .i64 (k : Int) ∧ n = .int .i64 (IntKind.i64.wrap (beVal (bs.take k)))) (fun _ i => bs.length - (intOf i).toNat)
  case atStart => exact ⟨0, Nat.zero_le _, rfl, rfl⟩
  case round =>
    obtain ⟨k, hk, rfl, rfl⟩ := hrel
    by_cases hlt : k < bs.length
    · obtain ⟨g, off, rfl, hl2⟩ : ∃ g off, ao = some ⟨g, off, none⟩ ∧ Lies w1 g off bs := by
        rcases hl with e | h
        · rw [e] at hlt; simp at hlt
        · exact h
      clear hl
      have hcell := hl2 k bs[k] (by simp [hlt])
      have hb := hby bs[k] (by simp)
      have hsn : Hid (bs.take (k + 1) = bs.take k ++ [bs[k]]) := by
        show _ = _
        rw [List.take_succ_eq_append_getElem hlt]
      generalize bs[k] = c at *
      obtain ⟨hb0, hb1⟩ := hb
      generalize hV : beVal (bs.take k) = V at *
      have HV := hidIt hV
      clear hV hl2 hby
      have hwp := wrap_step V c hb0 hb1
      have HWP := hidIt hwp
      clear hwp
      have hlt' : (k : Int) < (bs.length : Int) := by omega
      go_wp2
      refine ⟨⟨k + 1, by omega, by go_num, congrArg (Value.int .i64) ?_⟩, by simp [intOf]; omega⟩
      rw [hsn.out, beVal_snoc, HV.out]
      simp only [wrap64_eq]
      exact HWP.out
    · go_wp2
      go_ret
      rw [List.take_of_length_le (by omega)]
      exact ⟨rfl, h1, o1⟩

theorem tk_len (l : List Int) (a : Nat) (y n : Int) : ((tk l a y n).1.length : Int) ≤ max n 0 ∧ (tk l a y n).1.length ≤ l.length := by
  unfold tk; split
  · simp; omega
  · split
    · simp; omega
    · simp only [List.length_take, List.length_drop]; omega
theorem tk_bytes (l : List Int) (a : Nat) (y n : Int) (h : AllBytes l) : AllBytes (tk l a y n).1 := by
  unfold tk; split
  · exact AllBytes.nil
  · split
    · exact AllBytes.nil
    · exact fun x hx => h x (List.mem_of_mem_drop (List.mem_of_mem_take hx))
theorem beVal_two (bs : List Int) (h : AllBytes bs) (hl : bs.length ≤ 2) : 0 ≤ beVal bs ∧ beVal bs ≤ 65535 := by
  match bs, hl with
  | [], _ => simp [beVal]
  | [a], _ => have := h a (by simp); simp [beVal]; omega
  | [a, b], _ => have := h a (by simp); have := h b (by simp); simp [beVal]; omega

/-- The refusal that stays behind a new one. -/
def fl (y e : Int) : Int := if y = 0 then e else y

/-- What Reader.Text gives: the text, the new place, the new refusal. -/
def rtext (l : List Int) (a : Nat) (y : Int) : ByteArray × Nat × Int :=
  let t := tk l a y 2
  let y1 := if 256 < beVal t.1 then fl t.2.2 3 else t.2.2
  let u := tk l t.2.1 y1 (beVal t.1)
  match decL u.1 with
  | some xs => (strOfNums xs, u.2.1, fl u.2.2 0)
  | none => (⟨#[]⟩, u.2.1, fl u.2.2 12)

theorem rtext_some {l bs us xs : List Int} {a a1 a2 : Nat} {y y1 y2 : Int} (h1 : tk l a y 2 = (bs, a1, y1)) (h2 : tk l a1 (if 256 < beVal bs then fl y1 3 else y1) (beVal bs) = (us, a2, y2)) (h3 : decL us = some xs) : rtext l a y = (strOfNums xs, a2, fl y2 0) := by
  unfold rtext
  simp only [h1, h2, h3]
theorem rtext_none {l bs us : List Int} {a a1 a2 : Nat} {y y1 y2 : Int} (h1 : tk l a y 2 = (bs, a1, y1)) (h2 : tk l a1 (if 256 < beVal bs then fl y1 3 else y1) (beVal bs) = (us, a2, y2)) (h3 : decL us = none) : rtext l a y = (⟨#[]⟩, a2, fl y2 12) := by
  unfold rtext
  simp only [h1, h2, h3]

set_option maxRecDepth 8000 in
set_option maxHeartbeats 1600000 in
theorem rtext_any (pr : Nat) (v : Value) (l : List Int) (a : Nat) (y : Int) (w : World) (h : IsR pr w v l a y) :
    Calls Tryz.prog 68 #[.pointer (some ⟨pr, 0, none⟩)] w fun e w' => e = .returned (.string (rtext l a y).1) ∧ IsR pr w' v l (rtext l a y).2.1 (rtext l a y).2.2 ∧ Only pr w w' := by
  have hby : AllBytes l := by obtain ⟨_, _, _, _, _, h, _⟩ := h.view; exact h
  have h1 := rnum_any pr v l a y 2 w h
  rw [show min (max (2 : Int) 1) 8 = 2 by decide] at h1
  have hbv := beVal_two (tk l a y 2).1 (tk_bytes _ _ _ _ hby) (by have := (tk_len l a y 2).1; omega)
  rw [show IntKind.i64.wrap (beVal (tk l a y 2).1) = beVal (tk l a y 2).1 from wraps_small _ (by omega) (by omega)] at h1
  obtain ⟨⟨bs, a1, y1⟩, hT⟩ : ∃ T, tk l a y 2 = T := ⟨_, rfl⟩
  rw [hT] at h1 hbv
  simp only at h1 hbv
  obtain ⟨⟨us, a2, y2⟩, hU⟩ : ∃ U, tk l a1 (if 256 < beVal bs then fl y1 3 else y1) (beVal bs) = U := ⟨_, rfl⟩
  have hu := tk_len l a1 (if 256 < beVal bs then fl y1 3 else y1) (beVal bs)
  rw [hU] at hu
  simp only at hu
  have HS := hidIt (fun xs (h : decL us = some xs) => rtext_some hT hU h)
  have HN := hidIt (fun (h : decL us = none) => rtext_none hT hU h)
  generalize rtext l a y = R at *
  obtain ⟨tx, a3, y3⟩ := R
  simp only
  have HU := hidIt hU
  have H1 := hidIt h1
  clear h1 h hU hT
  generalize beVal bs = n at *
  obtain ⟨hn0, hn1⟩ := hbv
  by_cases h256 : 256 < n
  · rw [if_pos h256] at HU
    go_enter Tryz.func68, Tryz.ntmps68
    go_wp2_with fail
    refine H1.out.mono ?_
    rintro e w1 ⟨rfl, r1, o1⟩
    go_wp2_with fail
    refine (fail_any pr v l a1 y1 3 w1 r1).mono ?_
    rintro e w2 ⟨rfl, r2, o2⟩
    change IsR pr w2 v l a1 (fl y1 3) at r2
    go_wp2_with fail
    refine (take_any pr v l a1 (fl y1 3) n w2 r2).mono ?_
    rw [HU.out]
    rintro e w3 ⟨v3, rfl, V3, r3, o3⟩
    simp only at V3 r3
    go_wp2_with fail
    refine (decode_any v3 us w3 V3 (by omega)).mono ?_
    rintro e w4 ⟨b4, hd⟩
    have r4 := r3.below b4
    rcases hd with ⟨xs, hx, rfl⟩ | ⟨hx, rfl⟩
    · go_wp2_with fail
      refine (fail_any pr v l a2 y2 0 w4 r4).mono ?_
      rintro e w5 ⟨rfl, r5, o5⟩
      go_wp2
      go_ret
      have hR := HS.out xs hx
      simp only [Prod.mk.injEq] at hR
      obtain ⟨rfl, rfl, rfl⟩ := hR
      exact ⟨rfl, r5, o1.trans (o2.trans (o3.trans ((Only.of_below b4).trans o5)))⟩
    · go_wp2_with fail
      refine (fail_any pr v l a2 y2 12 w4 r4).mono ?_
      rintro e w5 ⟨rfl, r5, o5⟩
      go_wp2
      go_ret
      have hR := HN.out hx
      simp only [Prod.mk.injEq] at hR
      obtain ⟨rfl, rfl, rfl⟩ := hR
      exact ⟨rfl, r5, o1.trans (o2.trans (o3.trans ((Only.of_below b4).trans o5)))⟩
  · rw [if_neg h256] at HU
    go_enter Tryz.func68, Tryz.ntmps68
    go_wp2_with fail
    refine H1.out.mono ?_
    rintro e w1 ⟨rfl, r1, o1⟩
    go_wp2_with fail
    refine (take_any pr v l a1 y1 n w1 r1).mono ?_
    rw [HU.out]
    rintro e w3 ⟨v3, rfl, V3, r3, o3⟩
    simp only at V3 r3
    go_wp2_with fail
    refine (decode_any v3 us w3 V3 (by omega)).mono ?_
    rintro e w4 ⟨b4, hd⟩
    have r4 := r3.below b4
    rcases hd with ⟨xs, hx, rfl⟩ | ⟨hx, rfl⟩
    · go_wp2_with fail
      refine (fail_any pr v l a2 y2 0 w4 r4).mono ?_
      rintro e w5 ⟨rfl, r5, o5⟩
      go_wp2
      go_ret
      have hR := HS.out xs hx
      simp only [Prod.mk.injEq] at hR
      obtain ⟨rfl, rfl, rfl⟩ := hR
      exact ⟨rfl, r5, o1.trans (o3.trans ((Only.of_below b4).trans o5))⟩
    · go_wp2_with fail
      refine (fail_any pr v l a2 y2 12 w4 r4).mono ?_
      rintro e w5 ⟨rfl, r5, o5⟩
      go_wp2
      go_ret
      have hR := HN.out hx
      simp only [Prod.mk.injEq] at hR
      obtain ⟨rfl, rfl, rfl⟩ := hR
      exact ⟨rfl, r5, o1.trans (o3.trans ((Only.of_below b4).trans o5))⟩
end Go.Proofs.YthagaldpopnoeaaGreatDoor
