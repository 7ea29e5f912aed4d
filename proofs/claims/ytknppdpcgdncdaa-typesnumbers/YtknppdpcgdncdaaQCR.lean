/- What is asked of handlers, frames and the marks of a method: walked. -/
import Derived.Test.YtknppdpcgdncdaaQCM
namespace Go.Proofs.Ytknppdpcgdncdaa.Q
open Go.RowKit D
theorem hidden {p : Prop} (h : p) : Hid p := h
set_option maxRecDepth 8000 in
set_option maxHeartbeats 1000000 in
theorem handler_any (h : HD) (w : World) : Calls Try.prog 82 #[.agg #[.int .i64 h.fr, .int .i64 h.tO, .int .i64 h.aT, .string h.ty]] w fun e w' => e = .returned (.bool (handB h)) ∧ Below w.heap.size w w' := by
  have h1 := fun w => D.hidIt (within_in h.fr 65535 w)
  have h2 := fun w => D.hidIt (within_in h.tO 65535 w)
  have h3 := fun w => D.hidIt (within_in h.aT 65535 w)
  have h4 := fun w => D.hidIt (name_any h.ty w)
  unfold handB bsB
  generalize inB h.fr 65535 = a at *
  generalize inB h.tO 65535 = b at *
  generalize inB h.aT 65535 = c at *
  generalize nameB h.ty.data.toList = d at *
  obtain ⟨fr, tO, aT, ty⟩ := h
  simp only at h1 h2 h3 h4 ⊢
  cases a
  · go_enter Try.func82, Try.ntmps82
    go_wp2_with fail
    refine (h1 _).out.mono ?_
    rintro e w' ⟨rfl, hww⟩; cases hww
    go_wp2
    go_ret
    exact ⟨rfl, balloc _ _⟩
  cases b
  · go_enter Try.func82, Try.ntmps82
    go_wp2_with fail
    refine (h1 _).out.mono ?_
    rintro e w' ⟨rfl, hww⟩; cases hww
    go_wp2_with fail
    refine (h2 _).out.mono ?_
    rintro e w' ⟨rfl, hww⟩; cases hww
    go_wp2
    go_ret
    exact ⟨rfl, balloc _ _⟩
  cases c
  · go_enter Try.func82, Try.ntmps82
    go_wp2_with fail
    refine (h1 _).out.mono ?_
    rintro e w' ⟨rfl, hww⟩; cases hww
    go_wp2_with fail
    refine (h2 _).out.mono ?_
    rintro e w' ⟨rfl, hww⟩; cases hww
    go_wp2_with fail
    refine (h3 _).out.mono ?_
    rintro e w' ⟨rfl, hww⟩; cases hww
    go_wp2
    go_ret
    exact ⟨rfl, balloc _ _⟩
  · go_enter Try.func82, Try.ntmps82
    go_wp2_with fail
    refine (h1 _).out.mono ?_
    rintro e w' ⟨rfl, hww⟩; cases hww
    go_wp2_with fail
    refine (h2 _).out.mono ?_
    rintro e w' ⟨rfl, hww⟩; cases hww
    go_wp2_with fail
    refine (h3 _).out.mono ?_
    rintro e w' ⟨rfl, hww⟩; cases hww
    go_wp2_with fail
    refine (h4 _).out.mono ?_
    rintro e w' ⟨rfl, hww⟩; cases hww
    go_wp2
    go_ret
    exact ⟨by cases d <;> rfl, balloc _ _⟩

set_option maxRecDepth 8000 in
set_option maxHeartbeats 1000000 in
theorem place_any (a : Int) (o1 : Option Addr) (n1 c1 : Nat) (o2 : Option Addr) (n2 c2 : Nat) (w : World) : Calls Try.prog 84 #[.agg #[.int .i64 a, .slice o1 n1 c1, .slice o2 n2 c2]] w fun e w' => e = .returned (.bool (inB a 65535)) ∧ Below w.heap.size w w' := by
  have h1 := fun w => D.hidIt (within_in a 65535 w)
  go_enter Try.func84, Try.ntmps84
  go_wp2_with (go_at_call 76; refine (h1 _).out.mono ?_; rintro e w' ⟨rfl, hww⟩; cases hww)
  go_ret
  exact ⟨rfl, balloc _ _⟩

set_option maxRecDepth 8000 in
set_option maxHeartbeats 1000000 in
theorem size_any (a : Int) (o1 : Option Addr) (n1 c1 : Nat) (o2 : Option Addr) (n2 c2 : Nat) (w : World) : Calls Try.prog 85 #[.agg #[.int .i64 a, .slice o1 n1 c1, .slice o2 n2 c2]] w fun e w' => e = .returned (.bool (decide (n1 ≤ 16) && decide (n2 ≤ 16))) ∧ Below w.heap.size w w' := by
  by_cases h1 : n1 ≤ 16
  · have h1' : (n1 : Int) ≤ 16 := by omega
    by_cases h2 : n2 ≤ 16
    · have h2' : (n2 : Int) ≤ 16 := by omega
      go_enter Try.func85, Try.ntmps85
      go_wp2
      go_ret
      exact ⟨by first | rfl | (rw [decide_eq_true h1, decide_eq_true h2]; rfl), balloc _ _⟩
    · have h2' : ¬ (n2 : Int) ≤ 16 := by omega
      go_enter Try.func85, Try.ntmps85
      go_wp2
      go_ret
      exact ⟨by first | rfl | (rw [decide_eq_true h1, decide_eq_false h2]; rfl), balloc _ _⟩
  · have h1' : ¬ (n1 : Int) ≤ 16 := by omega
    go_enter Try.func85, Try.ntmps85
    go_wp2
    go_ret
    exact ⟨by first | rfl | (rw [decide_eq_false h1]; rfl), balloc _ _⟩

/-- Texts that lie in memory, asked by Slot. -/
theorem allSlots (ao : Option Addr) (c : Nat) (l : List ByteArray) (w : World) (h : LAt 1 TextR w ao c l) : Calls Try.prog 93 #[.slice ao l.length c, fnv 28] w fun e w' => e = .returned (.bool (l.all slotB)) ∧ Below w.heap.size w w' := by
  obtain ⟨h1, h2, rows, h3, h4⟩ := h
  have hr : RowsAt 1 w ao l.length (fun j => [.string (l.getD j ⟨#[]⟩)]) := by
    intro hn
    obtain ⟨b, off, e, hlt, hc⟩ := h3 hn
    refine ⟨b, off, e, hlt, fun j hj i v hv => ?_⟩
    have := (h4 j l[j] (List.getElem?_eq_getElem hj)).1
    refine hc j hj i v ?_
    rw [this, ← hv]
    simp [List.getD_eq_getElem?_getD, List.getElem?_eq_getElem hj]
  have := allS 28 (enters_of Try.func28 (by kernel_rfl) rfl) (fun j => l.getD j ⟨#[]⟩) (fun j => slotB (l.getD j ⟨#[]⟩)) ao l.length c w (by unfold maxLen at h2; omega) hr (fun j hj W hW => by
    have h5 := (h4 j l[j] (List.getElem?_eq_getElem hj)).2
    have e : l.getD j ⟨#[]⟩ = l[j] := by simp [List.getD_eq_getElem?_getD, List.getElem?_eq_getElem hj]
    rw [e]
    refine (slot_any _ W h5).mono ?_
    rintro e w' ⟨rfl, rfl⟩
    exact ⟨rfl, Below.refl _ _⟩)
  rw [allN_list l _ slotB (fun i x hx => by rw [List.getD_eq_getElem?_getD, hx]; rfl)] at this
  exact this

set_option maxRecDepth 8000 in
set_option maxHeartbeats 1000000 in
theorem slots_any (a : Int) (o1 : Option Addr) (c1 : Nat) (o2 : Option Addr) (c2 : Nat) (l1 l2 : List ByteArray) (w : World) (k1 : LAt 1 TextR w o1 c1 l1) (k2 : LAt 1 TextR w o2 c2 l2) : Calls Try.prog 86 #[.agg #[.int .i64 a, .slice o1 l1.length c1, .slice o2 l2.length c2]] w fun e w' => e = .returned (.bool (l1.all slotB && l2.all slotB)) ∧ Below w.heap.size w w' := by
  have h1 := fun o => D.hidIt (allSlots o1 c1 l1 (w.alloc o) (k1.below (balloc _ _) (fun _ _ h => h)))
  have h2 := fun W (hW : Below w.heap.size w W) => D.hidIt (allSlots o2 c2 l2 W (k2.below hW (fun _ _ h => h)))
  generalize l1.all slotB = x at *
  generalize l2.all slotB = y at *
  generalize l1.length = n1 at *
  generalize l2.length = n2 at *
  unfold fnv at h1 h2
  cases x
  · go_enter Try.func86, Try.ntmps86
    go_wp2_with (go_at_call 93; refine (h1 _).out.mono ?_; rintro e w' ⟨rfl, hb⟩)
    go_ret
    exact ⟨rfl, next (balloc _ _) hb⟩
  · go_enter Try.func86, Try.ntmps86
    go_wp2_with fail
    refine (h1 _).out.mono ?_
    rintro e w1 ⟨rfl, hb⟩
    have hb1 := next (balloc _ _) hb
    have hc := cell_later hb (show (w.alloc (.cells #[.int .i64 a, .slice o1 n1 c1, .slice o2 n2 c2] 95)).cell? ⟨w.heap.size, 2, none⟩ = some (.slice o2 n2 c2) by simp)
    have h2' := h2 w1 hb1
    clear h2 h1
    go_wp2_with (go_at_call 93; refine h2'.out.mono ?_; rintro e w2 ⟨rfl, hb2⟩)
    go_ret
    exact ⟨by cases y <;> rfl, next hb1 hb2⟩

/-- A list of frames, asked by a function of one. -/
theorem allFrames (g : Nat) (eg : ∀ args w, (callFunc g args).run Try.prog w = .ok (.enter g args) w) (f : RD → Bool)
    (hg : ∀ (W : World) (r : List Value) (x : RD), FrameR W r x → Calls Try.prog g #[.agg r.toArray] W fun e w' => e = .returned (.bool (f x)) ∧ Below W.heap.size W w')
    (ao : Option Addr) (c : Nat) (l : List RD) (w : World) (h : LAt 3 FrameR w ao c l) : Calls Try.prog 83 #[.slice ao l.length c, fnv g] w fun e w' => e = .returned (.bool (l.all f)) ∧ Below w.heap.size w w' := by
  have hbig := h.big
  obtain ⟨h1, h2, rows, h3, h4⟩ := h
  have := allR g eg rows (fun j => f (l.getD j ⟨0, [], []⟩)) ao l.length c w (fun j hj => by
      obtain ⟨o1, c1, o2, c2, e, _, _⟩ := h4 j l[j] (List.getElem?_eq_getElem hj)
      exact ⟨_, _, _, _, _, _, _, e⟩) hbig h3 (fun j hj W hW => by
    have e : l.getD j ⟨0, [], []⟩ = l[j] := by simp [List.getD_eq_getElem?_getD, List.getElem?_eq_getElem hj]
    rw [e]
    exact hg W _ _ ((h4 j l[j] (List.getElem?_eq_getElem hj)).below hW))
  rw [allN_list l _ f (fun i x hx => by rw [List.getD_eq_getElem?_getD, hx]; rfl)] at this
  exact this
theorem allHandlers (ao : Option Addr) (c : Nat) (l : List HD) (w : World) (h : LAt 4 HandR w ao c l) : Calls Try.prog 81 #[.slice ao l.length c, fnv 82] w fun e w' => e = .returned (.bool (l.all handB)) ∧ Below w.heap.size w w' := by
  have hbig := h.big
  obtain ⟨h1, h2, rows, h3, h4⟩ := h
  have := allH 82 (enters_of Try.func82 (by kernel_rfl) rfl) rows (fun j => handB (l.getD j ⟨0, 0, 0, ⟨#[]⟩⟩)) ao l.length c w (fun j hj => by
      exact ⟨_, _, _, _, (h4 j l[j] (List.getElem?_eq_getElem hj)).1⟩) hbig h3 (fun j hj W hW => by
    have e : l.getD j ⟨0, 0, 0, ⟨#[]⟩⟩ = l[j] := by simp [List.getD_eq_getElem?_getD, List.getElem?_eq_getElem hj]
    rw [e, (h4 j l[j] (List.getElem?_eq_getElem hj)).1]
    exact handler_any _ W)
  rw [allN_list l _ handB (fun i x hx => by rw [List.getD_eq_getElem?_getD, hx]; rfl)] at this
  exact this
theorem allConsts (ao : Option Addr) (c : Nat) (l : List CD) (w : World) (h : LAt 5 ConstR w ao c l) : Calls Try.prog 62 #[.slice ao l.length c, fnv 63] w fun e w' => e = .returned (.bool (l.all rightB)) ∧ Below w.heap.size w w' := by
  have hbig := h.big
  obtain ⟨h1, h2, rows, h3, h4⟩ := h
  have := allC 63 (enters_of Try.func63 (by kernel_rfl) rfl) rows (fun j => rightB (l.getD j zeroC)) ao l.length c w (fun j hj => by
      exact ⟨_, _, _, _, _, (h4 j l[j] (List.getElem?_eq_getElem hj)).1⟩) hbig h3 (fun j hj W hW => by
    have e : l.getD j zeroC = l[j] := by simp [List.getD_eq_getElem?_getD, List.getElem?_eq_getElem hj]
    rw [e, (h4 j l[j] (List.getElem?_eq_getElem hj)).1]
    exact right_any _ W (h4 j l[j] (List.getElem?_eq_getElem hj)).2.toFits)
  rw [allN_list l _ rightB (fun i x hx => by rw [List.getD_eq_getElem?_getD, hx]; rfl)] at this
  exact this
theorem allPlaces (ao : Option Addr) (c : Nat) (l : List RD) (w : World) (h : LAt 3 FrameR w ao c l) : Calls Try.prog 83 #[.slice ao l.length c, fnv 84] w fun e w' => e = .returned (.bool (l.all placeB)) ∧ Below w.heap.size w w' :=
  allFrames 84 (enters_of Try.func84 (by kernel_rfl) rfl) placeB (fun W r x hx => by obtain ⟨o1, c1, o2, c2, rfl, _, _⟩ := hx; exact place_any _ _ _ _ _ _ _ W) ao c l w h
theorem allSizes (ao : Option Addr) (c : Nat) (l : List RD) (w : World) (h : LAt 3 FrameR w ao c l) : Calls Try.prog 83 #[.slice ao l.length c, fnv 85] w fun e w' => e = .returned (.bool (l.all sizeB)) ∧ Below w.heap.size w w' :=
  allFrames 85 (enters_of Try.func85 (by kernel_rfl) rfl) sizeB (fun W r x hx => by obtain ⟨o1, c1, o2, c2, rfl, _, _⟩ := hx; exact size_any _ _ _ _ _ _ _ W) ao c l w h
theorem allTypes (ao : Option Addr) (c : Nat) (l : List RD) (w : World) (h : LAt 3 FrameR w ao c l) : Calls Try.prog 83 #[.slice ao l.length c, fnv 86] w fun e w' => e = .returned (.bool (l.all slotsB)) ∧ Below w.heap.size w w' :=
  allFrames 86 (enters_of Try.func86 (by kernel_rfl) rfl) slotsB (fun W r x hx => by obtain ⟨o1, c1, o2, c2, rfl, k1, k2⟩ := hx; exact slots_any _ _ _ _ _ _ _ W k1 k2) ao c l w h
end Go.Proofs.Ytknppdpcgdncdaa.Q
