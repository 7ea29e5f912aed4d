import Derived.Test.YthagaldpopnoeaaGreatDoorPV
import Derived.Test.YthagaldpopnoeaaGreatDoorYB
import Derived.WalkMore

/- texts and writeEntry: walked. -/
namespace Go.Proofs.YthagaldpopnoeaaGreatDoor
open Go.RowKit

def textsN (kind : Int) : Nat := if kind = 9 ∨ kind = 10 then 3 else if kind = 7 then 1 else 0
def textsB (kind : Int) : Bool := decide (kind = 3 ∨ kind = 7 ∨ kind = 9 ∨ kind = 10)
set_option maxRecDepth 8000 in
set_option maxHeartbeats 1000000 in
theorem texts_any (kind : Int) (w : World) : Calls Tryz.prog 156 #[.int .i64 kind] w fun e w' => e = .returned (.tuple #[.int .i64 (textsN kind : Nat), .bool (textsB kind)]) ∧ w' = w := by
  by_cases k3 : kind = 3
  · subst k3
    go_enter Tryz.func156, Tryz.ntmps156
    go_wp2
    go_ret2
    exact ⟨rfl, rfl⟩
  · by_cases k7 : kind = 7
    · subst k7
      go_enter Tryz.func156, Tryz.ntmps156
      go_wp2
      go_ret2
      exact ⟨rfl, rfl⟩
    · by_cases k9 : kind = 9
      · subst k9
        go_enter Tryz.func156, Tryz.ntmps156
        go_wp2
        go_ret2
        exact ⟨rfl, rfl⟩
      · by_cases k10 : kind = 10
        · subst k10
          go_enter Tryz.func156, Tryz.ntmps156
          go_wp2
          go_ret2
          exact ⟨rfl, rfl⟩
        · have e1 : textsN kind = 0 := by unfold textsN; rw [if_neg (by omega), if_neg k7]
          have e2 : textsB kind = false := by unfold textsB; exact decide_eq_false (by omega)
          rw [e1, e2]
          clear e1 e2
          have h3 : (kind == 3) = false := by simpa using k3
          have h7 : (kind == 7) = false := by simpa using k7
          have h9 : (kind == 9) = false := by simpa using k9
          have h10 : (kind == 10) = false := by simpa using k10
          go_enter Tryz.func156, Tryz.ntmps156
          go_wp2
          go_ret2
          exact ⟨rfl, rfl⟩

/-- The library's tables stand while the writer goes on. -/
theorem Tabs.wstep {pw : Nat} {v v' : Value} {w w' : World} (h : Tabs w) (st : WStep pw v w v' w') (hp : 2 ≤ pw) (hv : ∀ k, v.ownBlock = some k → 2 ≤ k) : Tabs w' := by
  have k : ∀ (b o : Nat) u, b < 2 → w.cell? ⟨b, o, none⟩ = some u → w'.cell? ⟨b, o, none⟩ = some u := by
    intro b o u hb hc
    have hlt := World.block_lt_of_cell? w ⟨b, o, none⟩ hc
    rw [World.cell?_of_block (a := ⟨b, o, none⟩) (st.block b hlt (by omega) (fun e => by have := hv b e.symm; omega))]
    exact hc
  exact ⟨fun c hc => k 0 _ _ (by decide) (h.1 c hc), fun i hi => ⟨k 1 _ _ (by decide) (h.2 i hi).1, k 1 _ _ (by decide) (h.2 i hi).2⟩⟩
theorem Tabs.writer {B pw : Nat} {w : World} {v : Value} {l : List Int} (h : Tabs w) (hI : IsW B pw w v l) : 2 ≤ pw := by
  have hc := hI.cell
  have h0 : w.cell? ⟨0, 0, none⟩ = some _ := h.1 0 (by decide)
  have h1 : w.cell? ⟨1, 2 * 0, none⟩ = some _ := (h.2 0 (by decide)).1
  rcases own_slice hI.own with ⟨ao, cap, rfl⟩
  match pw, hc with
  | 0, hc => rw [hc] at h0; cases h0
  | 1, hc => rw [hc] at h1; cases h1
  | k + 2, _ => omega
theorem CAt.wstep {pw g o : Nat} {v v' : Value} {w w' : World} {c : CD} (h : CAt w g o c) (st : WStep pw v w v' w') (hp : g ≠ pw) (hv : some g ≠ v.ownBlock) : CAt w' g o c :=
  h.block (st.block g (World.block_lt_of_cell? w ⟨g, o, none⟩ h.c0) hp hv)
theorem IsW.row_lt {B pw : Nat} {w : World} {v : Value} {l : List Int} (h : IsW B pw w v l) : ∀ k, v.ownBlock = some k → B ≤ k ∧ k < w.heap.size := h.own.lt

def entT (c : CD) : List Int := (([c.cls, c.nm, c.dsc] : List ByteArray).take (textsN c.kind)).flatMap wtextZ
/-- What writeEntry writes. -/
def entZ (c : CD) : List Int := be c.kind 1 ++ (if textsN c.kind = 0 then be c.n 4 else []) ++ entT c

theorem wnumK (B pw : Nat) (v0 : Value) (l : List Int) (n : Int) (k : Nat) (hk : (min (max (k : Int) 1) 8).toNat = k) (w : World) (h : IsW B pw w v0 l) (hB : B ≤ w.heap.size) (hlen : l.length ≤ 1099511627776) :
    Calls Tryz.prog 130 #[.pointer (some ⟨pw, 0, none⟩), .int .i64 n, .int .i64 (k : Int)] w fun e w' => e = .returned (.tuple #[]) ∧ ∃ v, IsW B pw w' v (l ++ be n k) ∧ WStep pw v0 w v w' := by
  have := wnum_any B pw v0 l n k w h hB hlen
  rwa [hk] at this

theorem run_parts (wx : World) (p n : Nat) (hn : n ≤ 3) : (Instr.sliceAt 212 (.pointer (some ⟨p, 0, none⟩)) none (some (.int .i64 (n : Int))) none).run Tryz.prog wx = .ok (.slice (some ⟨p, 0, none⟩) n 3) wx := by
  match n, hn with
  | 0, _ => go_simp
  | 1, _ => go_simp
  | 2, _ => go_simp
  | 3, _ => go_simp
  | k + 4, h => omega

set_option maxRecDepth 8000 in
set_option maxHeartbeats 4000000 in
theorem went_any (B pw : Nat) (v0 : Value) (l : List Int) (c : CD) (w : World) (hI : IsW B pw w v0 l) (hB : B ≤ w.heap.size) (hB2 : 2 ≤ B) (hlen : l.length ≤ 274877906944) (hT : Tabs w) (hok : c.Ok)
    (hsz : c.cls.size ≤ 17179869184 ∧ c.nm.size ≤ 17179869184 ∧ c.dsc.size ≤ 17179869184) :
    Calls Tryz.prog 131 #[.pointer (some ⟨pw, 0, none⟩), c.val] w fun e w' => e = .returned (.tuple #[]) ∧ ∃ v, IsW B pw w' v (l ++ entZ c) ∧ WStep pw v0 w v w' := by
  have hbx := box_at w c
  have b1 : Below w.heap.size w (w.alloc (.cells #[.int .i64 c.kind, .int .i32 c.n, .string c.cls, .string c.nm, .string c.dsc] 85)) := (Below.refl _ _).alloc (Nat.le_refl _) _
  have hz1' : (w.alloc (.cells #[.int .i64 c.kind, .int .i32 c.n, .string c.cls, .string c.nm, .string c.dsc] 85)).heap.size = w.heap.size + 1 := by simp
  have hI1 := hI.below b1
  have hT1 := hT.below b1
  have hpw := hT.writer hI
  have hplt := hI.lt
  have hrow := hI.row_lt
  have st1 : WStep pw v0 w v0 (w.alloc (.cells #[.int .i64 c.kind, .int .i32 c.n, .string c.cls, .string c.nm, .string c.dsc] 85)) := WStep.of_below b1
  have HX := fun w => D.hidIt (texts_any c.kind w)
  have hn3 : textsN c.kind ≤ 3 := by
    unfold textsN
    split
    · omega
    · split <;> omega
  have HE : Hid (entZ c = be c.kind 1 ++ (if textsN c.kind = 0 then be c.n 4 else []) ++ entT c) := rfl
  have HET : Hid (entT c = (([c.cls, c.nm, c.dsc] : List ByteArray).take (textsN c.kind)).flatMap wtextZ) := rfl
  generalize textsN c.kind = n at *
  generalize textsB c.kind = tb at *
  unfold CD.val at *
  go_enter Tryz.func131, Tryz.ntmps131
  go_wp2_with fail
  refine (wnumK B pw v0 l c.kind 1 (by decide) _ hI1 (by omega) (by omega)).mono ?_
  rintro e w2 ⟨rfl, v2, hI2, st2⟩
  have hs2 := st2.size
  rw [hz1'] at hs2
  have hbx2 := hbx.wstep st2 (by omega) (fun e => by have := (hrow _ e.symm).2; omega)
  have hT2 := hT1.wstep st2 hpw (fun k e => by have := (hrow k e).1; omega)
  obtain ⟨c0, c1, c2, c3, c4⟩ := id hbx2
  go_wp2_with fail
  refine (HX _).out.mono ?_
  rintro e w' ⟨rfl, hww⟩; cases hww
  by_cases h0 : n = 0
  · subst h0
    have hNn := hok.nlo
    have hNx := hok.nhi
    have hwr : IntKind.i64.wrap c.n = c.n := by rw [IntKind.wrap_i64]; omega
    go_wp2_with fail
    refine (wnumK B pw v2 _ c.n 4 (by decide) _ hI2 (by omega) (by rw [List.length_append, be_len]; omega)).mono ?_
    rintro e w3 ⟨rfl, v3, hI3, st3⟩
    have hs3 := st3.size
    have hrow2 := hI2.row_lt
    have hb2 : w.heap.size ≠ pw := by omega
    have hbx3 := hbx2.wstep st3 hb2 (fun e => by
      have h2 := st2.moved
      rcases h2 with h2 | ⟨g, h2, hg⟩
      · rw [h2] at e; have := (hrow _ e.symm).2; omega
      · rw [h2] at e; cases e; rw [hz1'] at hg; omega)
    obtain ⟨c0, c1, c2, c3, c4⟩ := hbx3
    have hsl := fun wx p => run_parts wx p 0 (by omega)
    go_wp2
    go_loopw [36] (fun i wr => i = .int .i64 0 ∧ wr = w3.alloc (.cells #[.string c.cls, .string c.nm, .string c.dsc] 212)) (fun _ _ => 0)
    case atStart => exact ⟨rfl, rfl⟩
    case round =>
      obtain ⟨rfl, rfl⟩ := hrel
      go_wp2
      go_end0
      have b4 : Below w3.heap.size w3 (w3.alloc (.cells #[.string c.cls, .string c.nm, .string c.dsc] 212)) := (Below.refl _ _).alloc (Nat.le_refl _) _
      refine ⟨rfl, v3, ?_, st1.trans (st2.trans (st3.trans (WStep.of_below b4)))⟩
      have e : l ++ entZ c = l ++ be c.kind 1 ++ be c.n 4 := by rw [HE.out, HET.out]; simp
      rw [e]
      exact hI3.below b4
  · have h0' : ((n : Int) == 0) = false := by simp; omega
    have hsl := fun wx p => run_parts wx p n hn3
    have b4 : Below w2.heap.size w2 (w2.alloc (.cells #[.string c.cls, .string c.nm, .string c.dsc] 212)) := (Below.refl _ _).alloc (Nat.le_refl _) _
    have hI4 := hI2.below b4
    have hT4 := hT2.below b4
    have hz4 : (w2.alloc (.cells #[.string c.cls, .string c.nm, .string c.dsc] 212)).heap.size = w2.heap.size + 1 := by simp
    have hP := heap_alloc_new w2 (.cells #[.string c.cls, .string c.nm, .string c.dsc] 212)
    have hrow2 := hI2.row_lt
    have hrow4 := hI4.row_lt
    have hplt2 := hI2.lt
    have st4 : WStep pw v2 w2 v2 (w2.alloc (.cells #[.string c.cls, .string c.nm, .string c.dsc] 212)) := WStep.of_below b4
    go_wp2
    generalize hW4 : w2.alloc (.cells #[.string c.cls, .string c.nm, .string c.dsc] 212) = W4 at *
    go_loopw [36] (fun i wr => ∃ (k : Nat) (v : Value), i = .int .i64 (k : Int) ∧ k ≤ n ∧ IsW B pw wr v (l ++ be c.kind 1 ++ (([c.cls, c.nm, c.dsc] : List ByteArray).take k).flatMap wtextZ) ∧ WStep pw v2 W4 v wr) (fun i _ => n - (intOf i).toNat)
    case atStart => exact ⟨0, v2, rfl, Nat.zero_le _, by simpa using hI4, WStep.refl _ _ _⟩
    case round =>
      obtain ⟨k, v, rfl, hk, hI5, st5⟩ := hrel
      have hs5 := st5.size
      by_cases hlt : k < n
      · have hlt' : (k : Int) < (n : Int) := by omega
        have hP5 : wr.heap[w2.heap.size]? = some (.cells #[.string c.cls, .string c.nm, .string c.dsc] 212 (0, 0)) :=
          (st5.block w2.heap.size (by omega) (by omega) (fun e => by have := (hrow2 _ e.symm).2; omega)).trans hP
        obtain ⟨s, hs, hss, hcell⟩ : ∃ s : ByteArray, ([c.cls, c.nm, c.dsc] : List ByteArray)[k]? = some s ∧ s.size ≤ 17179869184 ∧ wr.cell? ⟨w2.heap.size, k, none⟩ = some (.string s) := by
          have hk3 : k < 3 := by omega
          match k, hk3 with
          | 0, _ => exact ⟨c.cls, rfl, hsz.1, by rw [cell_of_row _ _ _ _ 212 (0, 0) hP5]; rfl⟩
          | 1, _ => exact ⟨c.nm, rfl, hsz.2.1, by rw [cell_of_row _ _ _ _ 212 (0, 0) hP5]; rfl⟩
          | 2, _ => exact ⟨c.dsc, rfl, hsz.2.2, by rw [cell_of_row _ _ _ _ 212 (0, 0) hP5]; rfl⟩
          | k + 3, h => omega
        have hT5 := hT4.wstep st5 hpw (fun k e => by have := (hrow2 k e).1; omega)
        have HS : Hid ((([c.cls, c.nm, c.dsc] : List ByteArray).take (k + 1)).flatMap wtextZ = (([c.cls, c.nm, c.dsc] : List ByteArray).take k).flatMap wtextZ ++ wtextZ s) := by
          show _ = _
          rw [List.take_add_one, hs]; simp
        have hll : (l ++ be c.kind 1 ++ (([c.cls, c.nm, c.dsc] : List ByteArray).take k).flatMap wtextZ).length ≤ 549755813888 := by
          have : ((([c.cls, c.nm, c.dsc] : List ByteArray).take k).flatMap wtextZ).length ≤ 774 := by
            have h1 := wtextZ_len c.cls
            have h2 := wtextZ_len c.nm
            have h3 := wtextZ_len c.dsc
            have hk3 : k < 3 := by omega
            match k, hk3 with
            | 0, _ => simp
            | 1, _ => simp; omega
            | 2, _ => simp; omega
            | k + 3, h => omega
          rw [List.length_append, List.length_append, be_len]; omega
        clear hs hP5 hP
        go_wp2_with fail
        refine (wtext_any B pw v _ s wr hI5 (by omega) hll hT5 hss).mono ?_
        rintro e w6 ⟨rfl, v6, hI6, st6⟩
        go_wp2
        refine ⟨⟨k + 1, v6, by go_num, by omega, ?_, st5.trans st6⟩, by simp [intOf]; omega⟩
        rw [HS.out, ← List.append_assoc]; exact hI6
      · have hlt' : ¬ (k : Int) < (n : Int) := by omega
        obtain rfl : k = n := by omega
        go_wp2
        go_end0
        refine ⟨rfl, v, ?_, st1.trans (st2.trans (st4.trans st5))⟩
        have e : l ++ entZ c = l ++ be c.kind 1 ++ (([c.cls, c.nm, c.dsc] : List ByteArray).take k).flatMap wtextZ := by rw [HE.out, HET.out, if_neg h0]; simp
        rw [e]
        exact hI5
end Go.Proofs.YthagaldpopnoeaaGreatDoor

/- Write: walked. -/
namespace Go.Proofs.YthagaldpopnoeaaGreatDoor
open Go.RowKit

theorem empty_size {s : ByteArray} (h : emptyB s = true) : s.size = 0 := by
  unfold emptyB at h
  rw [Lib.toList_data] at h
  rw [D.size_len, List.isEmpty_iff.1 h]
  rfl
theorem name_size {s : ByteArray} (h : D.nameB (bsB s) = true) : s.size ≤ 64 := by
  have := ((D.nameB_iff _).1 h).2.1
  rw [D.size_len]; exact this
theorem field_size {s : ByteArray} (h : D.fieldB (bsB s) = true) : s.size ≤ 67 := by
  have := D.fld_len ((D.fieldB_iff _).1 h)
  rw [D.size_len]; exact this
theorem class_size {s : ByteArray} (h : classB s = true) : s.size ≤ 67 := by
  unfold classB at h
  rw [Bool.or_eq_true] at h
  rcases h with h | h
  · unfold D.elemZ at h
    split at h
    · rename_i h2; exact field_size h2.1
    · cases h
  · have := name_size h; omega
theorem right_kind {c : CD} (h : rightB c = true) : c.kind = 3 ∨ c.kind = 7 ∨ c.kind = 9 ∨ c.kind = 10 := by
  unfold rightB at h
  by_cases h3 : c.kind = 3
  · exact .inl h3
  · by_cases h7 : c.kind = 7
    · exact .inr (.inl h7)
    · by_cases h9 : c.kind = 9
      · exact .inr (.inr (.inl h9))
      · by_cases h10 : c.kind = 10
        · exact .inr (.inr (.inr h10))
        · simp [h3, h7, h9, h10] at h
theorem right_small {c : CD} (h : rightB c = true) : c.cls.size ≤ 67 ∧ c.nm.size ≤ 64 ∧ c.dsc.size ≤ 256 := by
  have hk := right_kind h
  unfold rightB at h
  rcases hk with k | k | k | k
  all_goals rw [k] at h
  · simp at h
    have h1 := empty_size h.1.1
    have h2 := empty_size h.1.2
    have h3 := empty_size h.2
    omega
  · simp at h
    have h1 := class_size h.1.1.2
    have h2 := empty_size h.1.2
    have h3 := empty_size h.2
    omega
  · simp [memberB] at h
    have h1 := name_size h.1.2.1
    have h2 := name_size h.1.2.2
    have h3 := field_size h.2
    omega
  · simp [memberB, methodB] at h
    have h1 := name_size h.1.2.1
    have h2 := name_size h.1.2.2
    have h3 := h.2.2
    omega

theorem entT_len (c : CD) : (entT c).length ≤ 774 := by
  have h1 := wtextZ_len c.cls
  have h2 := wtextZ_len c.nm
  have h3 := wtextZ_len c.dsc
  unfold entT textsN
  split
  · simp; omega
  · split
    · simp; omega
    · simp
theorem entZ_len (c : CD) : (entZ c).length ≤ 779 := by
  have := entT_len c
  unfold entZ
  rw [List.length_append, List.length_append, be_len]
  split
  · rw [be_len]; omega
  · simp; omega
theorem entZ_bytes (c : CD) : AllBytes (entZ c) := by
  unfold entZ
  refine ((be_bytes _ _).append ?_).append ?_
  · split
    · exact be_bytes _ _
    · exact AllBytes.nil
  · intro x hx
    unfold entT at hx
    obtain ⟨s, _, hs⟩ := List.mem_flatMap.1 hx
    exact wtextZ_bytes s x hs
theorem ents_len (l : List CD) : (l.flatMap entZ).length ≤ l.length * 779 := by
  induction l with
  | nil => simp
  | cons c l ih => have := entZ_len c; simp only [List.flatMap_cons, List.length_append, List.length_cons]; omega
theorem ents_bytes (l : List CD) : AllBytes (l.flatMap entZ) := by
  intro x hx
  obtain ⟨c, _, hc⟩ := List.mem_flatMap.1 hx
  exact entZ_bytes c x hc

/-- What Write writes of a list that it does not refuse. -/
def poolZ (l : List CD) : List Int := be (l.length : Nat) 2 ++ l.flatMap entZ
/-- What Write answers. -/
def wcode (l : List CD) : Int := if 256 < l.length then 4 else if l.all rightB = true then 0 else 14
def wput (l : List CD) : List Int := if wcode l = 0 then poolZ l else []

theorem wcode_many {l : List CD} (h : 256 < l.length) : wcode l = 4 := by unfold wcode; rw [if_pos h]
theorem wput_many {l : List CD} (h : 256 < l.length) : wput l = [] := by unfold wput; rw [wcode_many h]; exact if_neg (by omega)

theorem CView.wstep {pw : Nat} {v vw vw' : Value} {w w' : World} {l : List CD} (h : CView w v l) (st : WStep pw vw w vw' w') (hs : l ≠ [] → ∀ k, v.ownBlock = some k → k ≠ pw ∧ some k ≠ vw.ownBlock) : CView w' v l := by
  obtain ⟨ao, cap, rfl, hc, hm, hk, hl⟩ := h
  refine ⟨ao, cap, rfl, hc, hm, hk, ?_⟩
  rcases hl with h | ⟨g, off, rfl, hl⟩
  · exact .inl h
  · by_cases he : l = []
    · exact .inl he
    · have := hs he g rfl
      exact .inr ⟨g, off, rfl, fun i c hi => (hl i c hi).wstep st this.1 this.2⟩

set_option maxRecDepth 8000 in
set_option maxHeartbeats 1000000 in
theorem write_nil (v : Value) (w : World) : Calls Tryz.prog 89 #[.pointer none, v] w fun e w' => e = .returned (.int .i64 1) ∧ w' = w := by
  go_enter Tryz.func89, Tryz.ntmps89
  go_wp2
  go_ret
  exact ⟨rfl, rfl⟩

set_option maxRecDepth 8000 in
set_option maxHeartbeats 4000000 in
theorem write_any (B pw : Nat) (v0 v : Value) (l0 : List Int) (l : List CD) (w : World) (hI : IsW B pw w v0 l0) (hB : B ≤ w.heap.size) (hB2 : 2 ≤ B) (hlen : l0.length ≤ 137438953472) (hT : Tabs w)
    (hv : CView w v l) (hsep : l ≠ [] → ∀ k, v.ownBlock = some k → k ≠ pw ∧ some k ≠ v0.ownBlock) :
    Calls Tryz.prog 89 #[.pointer (some ⟨pw, 0, none⟩), v] w fun e w' => e = .returned (.int .i64 (wcode l)) ∧ ∃ v1, IsW B pw w' v1 (l0 ++ wput l) ∧ WStep pw v0 w v1 w' := by
  obtain ⟨ao, cap, rfl, hc, hm, hok, hl⟩ := id hv
  unfold maxLen at hm
  by_cases h256 : 256 < l.length
  · have h256' : (256 : Int) < (l.length : Int) := by omega
    rw [wcode_many h256, wput_many h256]
    go_enter Tryz.func89, Tryz.ntmps89
    go_wp2
    go_ret
    exact ⟨rfl, v0, by simpa using hI, WStep.refl _ _ _⟩
  · have h256' : ¬ (256 : Int) < (l.length : Int) := by omega
    have HW : Hid (wcode l = if l.all rightB = true then 0 else 14) := by show _ = _; unfold wcode; rw [if_neg h256]
    have HP : Hid (wput l = if wcode l = 0 then poolZ l else []) := rfl
    have hpw := hT.writer hI
    have hplt := hI.lt
    have hrow := hI.row_lt
    generalize wcode l = WC at *
    generalize wput l = WP at *
    go_enter Tryz.func89, Tryz.ntmps89
    go_wp2
    go_loopw [16] (fun i wr => ∃ (k : Nat), i = .int .i64 (k : Int) ∧ k ≤ l.length ∧ Below w.heap.size w wr ∧ Hid (∀ c ∈ l.take k, rightB c = true)) (fun i _ => l.length - (intOf i).toNat)
    case atStart => exact ⟨0, rfl, Nat.zero_le _, Below.refl _ _, fun c hc => by simp at hc⟩
    case round =>
      obtain ⟨k, rfl, hk, hbw, HA⟩ := hrel
      have hsw := hbw.size
      by_cases hlt : k < l.length
      · have hlt' : (k : Int) < (l.length : Int) := by omega
        obtain ⟨g, off, rfl, hla⟩ : ∃ g off, ao = some ⟨g, off, none⟩ ∧ CLies w g off l := by
          rcases hl with e | h
          · rw [e] at hlt; simp at hlt
          · exact h
        have hd := (hla k l[k] (by simp [hlt])).below hbw
        have hokd := hok l[k] (by simp)
        have HL : Hid (l[k]? = some l[k]) := by show _ = _; simp [hlt]
        generalize l[k] = c at *
        obtain ⟨d0, d1, d2, d3, d4⟩ := hd
        have HR := fun w => D.hidIt (right_any c w hokd.toFits)
        have HRB : Hid (rightB c = rightB c) := rfl
        have b1 : ∀ o, Below wr.heap.size wr (wr.alloc o) := fun o => (Below.refl _ _).alloc (Nat.le_refl _) o
        clear hla hl
        unfold CD.val at HR
        cases hr : rightB c with
        | true =>
          rw [hr] at HR
          have HRT := D.hidIt hr
          clear hr
          go_wp2_with fail
          refine (HR _).out.mono ?_
          rintro e w2 ⟨rfl, b2⟩
          go_wp2
          refine ⟨⟨k + 1, by go_num, by omega, (hbw.alloc hsw _).trans (b2.mono (by simp; omega)), ?_⟩, by simp [intOf]; omega⟩
          intro x hx
          rw [List.take_add_one, HL.out] at hx
          rcases List.mem_append.1 hx with hx | hx
          · exact HA.out x hx
          · simp at hx; subst hx; exact HRT.out
        | false =>
          rw [hr] at HR
          have HRT := D.hidIt hr
          clear hr
          go_wp2_with fail
          refine (HR _).out.mono ?_
          rintro e w2 ⟨rfl, b2⟩
          go_wp2
          go_ret
          have hna : l.all rightB = false := by
            rw [List.all_eq_false]
            exact ⟨c, List.mem_of_getElem? HL.out, by simp [HRT.out]⟩
          have e1 : WC = 14 := by rw [HW.out, hna]; rfl
          have e2 : WP = [] := by rw [HP.out, e1]; rfl
          rw [e1, e2]
          have b3 : Below w.heap.size w w2 := (hbw.alloc hsw _).trans (b2.mono (by simp; omega))
          exact ⟨rfl, v0, by simpa using hI.below b3, WStep.of_below b3⟩
      · have hlt' : ¬ (k : Int) < (l.length : Int) := by omega
        have hall : l.all rightB = true := by
          rw [List.all_eq_true]
          intro c hc
          exact HA.out c (by rw [List.take_of_length_le (by omega)]; exact hc)
        have e1 : WC = 0 := by rw [HW.out, hall]; rfl
        have e2 : WP = poolZ l := by rw [HP.out, e1]; rfl
        have HALL := D.hidIt (List.all_eq_true.1 hall)
        have E1 := D.hidIt e1
        have E2 := D.hidIt e2
        clear hall e1 e2 HW HP HA
        have hI1 := hI.below hbw
        have hT1 := hT.below hbw
        have hv1 := hv.below hbw
        have st1 : WStep pw v0 w v0 wr := WStep.of_below hbw
        go_wp2_with fail
        refine (wnumK B pw v0 l0 (l.length : Nat) 2 (by decide) wr hI1 (by omega) (by omega)).mono ?_
        rintro e w2 ⟨rfl, v2, hI2, st2⟩
        have hs2 := st2.size
        have hT2 := hT1.wstep st2 hpw (fun k e => by have := (hrow k e).1; omega)
        have hv2 := hv1.wstep st2 hsep
        have hrow2 := hI2.row_lt
        have hsep2 : ∀ k, (Value.slice ao l.length cap).ownBlock = some k → l ≠ [] → k ≠ pw ∧ some k ≠ v2.ownBlock := by
          intro k e hne
          refine ⟨(hsep hne k e).1, ?_⟩
          have hkw : k < wr.heap.size := by
            obtain ⟨ao', cap', e', _, _, _, hl'⟩ := hv1
            cases e'
            rcases hl' with h | ⟨g, off, rfl, hl'⟩
            · exact absurd h hne
            · cases e
              obtain ⟨c, t, rfl⟩ := List.exists_cons_of_ne_nil hne
              exact World.block_lt_of_cell? wr ⟨g, off + 0 * 5, none⟩ (hl' 0 c rfl).c0
          rcases st2.moved with h | ⟨g, h, hg⟩
          · rw [h]; exact (hsep hne k e).2
          · rw [h]; intro e2; cases e2; omega
        go_wp2
        go_loopw [30] (fun i wx => ∃ (k : Nat) (v3 : Value), i = .int .i64 (k : Int) ∧ k ≤ l.length ∧ IsW B pw wx v3 (l0 ++ be (l.length : Nat) 2 ++ (l.take k).flatMap entZ) ∧ WStep pw v2 w2 v3 wx) (fun i _ => l.length - (intOf i).toNat)
        case atStart => exact ⟨0, v2, rfl, Nat.zero_le _, by simpa using hI2, WStep.refl _ _ _⟩
        case round =>
          obtain ⟨j, v3, rfl, hj, hI3, st3⟩ := hrel
          have hs3 := st3.size
          by_cases hjl : j < l.length
          · have hjl' : (j : Int) < (l.length : Int) := by omega
            have hne : l ≠ [] := by rintro rfl; simp at hjl
            have hv3 := hv2.wstep st3 (fun _ k e => hsep2 k e hne)
            obtain ⟨ao', cap', e', _, _, _, hl3⟩ := hv3
            cases e'
            obtain ⟨g, off, rfl, hla⟩ : ∃ g off, ao = some ⟨g, off, none⟩ ∧ CLies wr g off l := by
              rcases hl3 with e | h
              · rw [e] at hjl; simp at hjl
              · exact h
            have hd := hla j l[j] (by simp [hjl])
            have hokd := hok l[j] (by simp)
            have hrt := HALL.out l[j] (by simp)
            have HL : Hid (l[j]? = some l[j]) := by show _ = _; simp [hjl]
            generalize l[j] = c at *
            obtain ⟨d0, d1, d2, d3, d4⟩ := hd
            have hsm := right_small hrt
            have b4 : ∀ o, Below wr.heap.size wr (wr.alloc o) := fun o => (Below.refl _ _).alloc (Nat.le_refl _) o
            have hT3 := hT2.wstep st3 hpw (fun k e => by have := (hrow2 k e).1; omega)
            have hll : (l0 ++ be (l.length : Nat) 2 ++ (l.take j).flatMap entZ).length ≤ 274877906944 := by
              have := ents_len (l.take j)
              rw [List.length_append, List.length_append, be_len]
              rw [List.length_take] at this
              omega
            have HWE := fun w (h1 : IsW B pw w v3 (l0 ++ be (l.length : Nat) 2 ++ (l.take j).flatMap entZ)) (h2 : B ≤ w.heap.size) (h3 : Tabs w) => D.hidIt (went_any B pw v3 _ c w h1 h2 hB2 hll h3 hokd ⟨by omega, by omega, by omega⟩)
            have HS : Hid ((l.take (j + 1)).flatMap entZ = (l.take j).flatMap entZ ++ entZ c) := by
              show _ = _
              rw [List.take_add_one, HL.out]; simp
            clear hla hl3 hl hrt
            unfold CD.val at HWE
            go_wp2_with fail
            refine (HWE _ (hI3.below (b4 _)) (by simp; omega) (hT3.below (b4 _))).out.mono ?_
            rintro e w5 ⟨rfl, v5, hI5, st5⟩
            go_wp2
            refine ⟨⟨j + 1, v5, by go_num, by omega, ?_, st3.trans ((WStep.of_below (b4 _)).trans st5)⟩, by simp [intOf]; omega⟩
            rw [HS.out, ← List.append_assoc]; exact hI5
          · have hjl' : ¬ (j : Int) < (l.length : Int) := by omega
            go_wp2
            go_ret
            rw [E1.out, E2.out]
            refine ⟨rfl, v3, ?_, st1.trans (st2.trans st3)⟩
            unfold poolZ
            rw [← List.append_assoc]
            rw [List.take_of_length_le (by omega)] at hI3
            exact hI3
end Go.Proofs.YthagaldpopnoeaaGreatDoor
