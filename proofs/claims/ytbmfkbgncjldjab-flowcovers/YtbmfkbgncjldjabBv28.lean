/- Texts FN FL. -/
import Derived.Test.YtbmfkbgncjldjabBv27
import Derived.Test.YtbmfkbgncjldjabBv26
import Derived.Test.YtbmfkbgncjldjabBv24
namespace Go.Proofs.Ytbmfkbgncjldjab
open Go.RowKit

def Succ (l : List IN) (h : List HN) (k m : Nat) : Prop := (m : Int) ∈ nextZ l (k : Int) ∨ ∃ i x, l[k]? = some i ∧ x ∈ h ∧ x.f ≤ i.pl ∧ i.pl < x.t ∧ findZ l x.a = (m : Int)
inductive Rch (l : List IN) (h : List HN) : Nat → Prop
  | zero : 0 < l.length → Rch l h 0
  | step {k m : Nat} : Rch l h k → Succ l h k m → Rch l h m
def ReachIs (l : List IN) (h : List HN) (r : List Bool) : Prop := r.length = l.length ∧ ∀ k : Nat, k < l.length → (r[k]? = some true ↔ Rch l h k)
theorem ReachIs.unique {l : List IN} {h : List HN} {r s : List Bool} (hr : ReachIs l h r) (hs : ReachIs l h s) : r = s := by
  apply List.ext_getElem (by rw [hr.1, hs.1])
  intro k h1 h2
  have a := hr.2 k (by rw [← hr.1]; exact h1)
  have b := hs.2 k (by rw [← hr.1]; exact h1)
  rw [List.getElem?_eq_getElem h1] at a
  rw [List.getElem?_eq_getElem h2] at b
  cases e1 : r[k] <;> cases e2 : s[k]
  · rfl
  · rw [e1] at a
    rw [e2] at b
    exact absurd (a.2 (b.1 rfl)) (by simp)
  · rw [e1] at a
    rw [e2] at b
    exact absurd (b.2 (a.1 rfl)) (by simp)
  · rfl
theorem nextZ_range {l : List IN} {n m : Int} (h : m ∈ nextZ l n) : 0 ≤ m ∧ m < l.length := by
  unfold nextZ at h
  split at h
  · simp at h
  · split at h
    · rename_i x hx
      have hk := (List.getElem?_eq_some_iff.1 hx).1
      have ht := tgtZ_lt l x
      unfold nextL at h
      split at h
      · rename_i hc
        simp only [Bool.and_eq_true, decide_eq_true_eq] at hc
        split at h
        · simp at h; omega
        · split at h
          · simp at h; omega
          · split at h
            · simp at h; omega
            · simp at h; omega
      · split at h
        · simp at h
        · simp at h; omega
    · simp at h
theorem Succ.lt {l : List IN} {h : List HN} {k m : Nat} (hs : Succ l h k m) : m < l.length := by
  rcases hs with h1 | ⟨i, x, _, _, _, _, he⟩
  · have := nextZ_range h1; omega
  · have := findZ_lt l x.a; omega
theorem Rch.lt {l : List IN} {h : List HN} {k : Nat} (hr : Rch l h k) : k < l.length := by
  cases hr with
  | zero h => exact h
  | step _ hs => exact hs.lt
structure Iv (l : List IN) (h : List HN) (r : List Bool) (st : List Int) (ex : Int) : Prop where
  len : r.length = l.length
  snd : ∀ k : Nat, r[k]? = some true → Rch l h k
  stk : ∀ s ∈ st, 0 ≤ s ∧ r[s.toNat]? = some true
  fst : 0 < l.length → r[0]? = some true
  cls : ∀ k : Nat, r[k]? = some true → (k : Int) ∉ st → (k : Int) ≠ ex → ∀ m : Nat, Succ l h k m → r[m]? = some true
def cntF (r : List Bool) : Nat := (r.filter (fun b => !b)).length
theorem cntF_set {r : List Bool} {k : Nat} (h : r[k]? = some false) : cntF (r.set k true) + 1 = cntF r := by
  induction r generalizing k with
  | nil => simp at h
  | cons b r ih =>
    cases k with
    | zero => simp at h; subst h; simp [cntF]
    | succ k =>
      simp at h
      have := ih h
      unfold cntF at *
      cases b <;> simp <;> omega
theorem set_mono {r : List Bool} {j k : Nat} (h : r[k]? = some true) : (r.set j true)[k]? = some true := by
  rw [List.getElem?_set]
  split
  · have := (List.getElem?_eq_some_iff.1 h).1
    rename_i e
    subst e
    rw [if_pos this]
  · exact h
theorem set_self {r : List Bool} {k : Nat} {b : Bool} (h : r[k]? = some b) : (r.set k true)[k]? = some true := by
  rw [List.getElem?_set_self (List.getElem?_eq_some_iff.1 h).1]
theorem Iv.step {l : List IN} {h : List HN} {r : List Bool} {st : List Int} {ex : Int} (iv : Iv l h r st ex) (m : Int) (hm : ∀ k : Nat, m = (k : Int) → k < l.length → Rch l h k) :
    Iv l h (rchZ (r, st) m).1 (rchZ (r, st) m).2 ex ∧ (∀ k : Nat, r[k]? = some true → (rchZ (r, st) m).1[k]? = some true) ∧ (∀ k : Nat, m = (k : Int) → k < l.length → (rchZ (r, st) m).1[k]? = some true) ∧ 2 * cntF (rchZ (r, st) m).1 + (rchZ (r, st) m).2.length ≤ 2 * cntF r + st.length ∧ (rchZ (r, st) m).1.length = r.length := by
  unfold rchZ
  simp only
  split
  · rename_i hc
    obtain ⟨h0, hf⟩ := hc
    obtain ⟨k, rfl⟩ := Int.eq_ofNat_of_zero_le h0
    rw [Int.toNat_natCast] at hf ⊢
    have hk : k < l.length := by rw [← iv.len]; exact (List.getElem?_eq_some_iff.1 hf).1
    have hcnt := cntF_set hf
    refine ⟨⟨by rw [List.length_set]; exact iv.len, fun j hj => ?_, fun s hs => ?_, fun h => set_mono (iv.fst h), fun j hj hjs hje q hq => ?_⟩, fun j hj => set_mono hj, fun j e hj => ?_, ?_, by rw [List.length_set]⟩
    · by_cases e : j = k
      · subst e; exact hm j rfl hk
      · rw [List.getElem?_set_ne (fun h => e h.symm)] at hj
        exact iv.snd j hj
    · rcases List.mem_append.1 hs with hs | hs
      · exact ⟨(iv.stk s hs).1, set_mono (iv.stk s hs).2⟩
      · simp at hs
        subst hs
        exact ⟨h0, by rw [Int.toNat_natCast]; exact set_self hf⟩
    · have e : j ≠ k := fun e => hjs (by subst e; simp)
      rw [List.getElem?_set_ne (fun h => e h.symm)] at hj
      exact set_mono (iv.cls j hj (fun hs => hjs (List.mem_append.2 (.inl hs))) hje q hq)
    · have : k = j := by omega
      subst this
      exact set_self hf
    · show 2 * cntF (r.set k true) + (st ++ [(k : Int)]).length ≤ _
      rw [List.length_append, List.length_singleton]
      omega
  · rename_i hc
    refine ⟨iv, fun j hj => hj, fun j e hj => ?_, Nat.le_refl _, rfl⟩
    subst e
    rw [Int.toNat_natCast] at hc
    have hj' : j < r.length := by rw [iv.len]; exact hj
    rw [List.getElem?_eq_getElem hj'] at hc ⊢
    cases e : r[j]
    · exact absurd ⟨by omega, by rw [e]⟩ hc
    · rfl
theorem Iv.begin (l : List IN) (h : List HN) : Iv l h (rchZ (List.replicate l.length false, []) 0).1 (rchZ (List.replicate l.length false, []) 0).2 (-1) := by
  by_cases h0 : 0 < l.length
  · have hf : (List.replicate l.length false)[0]? = some false := by simp [h0]
    have e : rchZ (List.replicate l.length false, []) 0 = ((List.replicate l.length false).set 0 true, [0]) := by
      unfold rchZ
      rw [if_pos ⟨Int.le_refl 0, hf⟩]
      rfl
    rw [e]
    have ht : ∀ k : Nat, ((List.replicate l.length false).set 0 true)[k]? = some true → k = 0 := by
      intro k hk
      rcases Nat.eq_zero_or_pos k with h | h
      · exact h
      · rw [List.getElem?_set_ne (by omega), List.getElem?_replicate] at hk
        split at hk <;> simp at hk
    refine ⟨by simp, fun k hk => ?_, fun s hs => ?_, fun _ => set_self hf, fun k hk hks => ?_⟩
    · rw [ht k hk]; exact .zero h0
    · simp at hs; subst hs; exact ⟨by omega, set_self hf⟩
    · rw [ht k hk] at hks; simp at hks
  · have hl : l.length = 0 := by omega
    have e : rchZ (List.replicate l.length false, []) 0 = ([], []) := by unfold rchZ; rw [hl]; simp
    rw [e]
    exact ⟨by simp [hl], fun k hk => by simp at hk, fun s hs => by simp at hs, fun h => absurd h h0, fun k hk => by simp at hk⟩
theorem Iv.done {l : List IN} {h : List HN} {r : List Bool} {ex : Int} (iv : Iv l h r [] ex) (he : ex < 0) : ReachIs l h r := by
  refine ⟨iv.len, fun k hk => ⟨iv.snd k, fun hr => ?_⟩⟩
  clear hk
  induction hr with
  | zero h0 => exact iv.fst h0
  | step hr hs ih => exact iv.cls _ ih (by simp) (by omega) _ hs
theorem Iv.pop {l : List IN} {h : List HN} {r : List Bool} {st : List Int} {n ex : Int} (iv : Iv l h r (st ++ [n]) ex) (he : ex < 0) : Iv l h r st n := by
  refine ⟨iv.len, iv.snd, fun s hs => iv.stk s (List.mem_append.2 (.inl hs)), iv.fst, fun k hk hks hkn m hm => iv.cls k hk (fun hs => ?_) (by omega) m hm⟩
  rcases List.mem_append.1 hs with hs | hs
  · exact hks hs
  · simp at hs; exact hkn hs
theorem Iv.close {l : List IN} {h : List HN} {r : List Bool} {st : List Int} {n : Nat} (iv : Iv l h r st (n : Int)) (hd : ∀ m : Nat, Succ l h n m → r[m]? = some true) : Iv l h r st (-1) := by
  refine ⟨iv.len, iv.snd, iv.stk, iv.fst, fun k hk hks _ m hm => ?_⟩
  by_cases e : k = n
  · subst e; exact hd m hm
  · exact iv.cls k hk hks (by omega) m hm
end Go.Proofs.Ytbmfkbgncjldjab
namespace Go.Proofs.Ytbmfkbgncjldjab
open Go.RowKit

theorem heap_alloc_new' {w : World} {o : Obj} {k : Nat} (h : k = w.heap.size) : (w.alloc o).heap[k]? = some o := by subst h; exact heap_alloc_new w o
set_option maxRecDepth 8000 in
set_option maxHeartbeats 8000000 in
theorem leaders_any (v u : Value) (l : List IN) (h : List HN) (w : World) (hv : IView w v l) (hu : HView w u h) (hlen : l.length ≤ 140737488355328) :
    Calls Try.prog 19 #[v, u] w fun e w' => ∃ g, e = .returned (.slice (some ⟨g, 0, none⟩) l.length l.length) ∧ w.heap.size ≤ g ∧ w'.heap[g]? = some (.cells (bcellsB (leadZ l h)) 4 (0, 0)) ∧ (leadZ l h).length = l.length ∧ Below w.heap.size w w' := by
  have HV := hidIt hv
  have HU := hidIt hu
  have GT0 := hidIt (fun (x : IN) W (hb : Below w.heap.size w W) => target_any v l x W (hv.below hb))
  have GF := hidIt (fun (p : Int) W (hb : Below w.heap.size w W) => find_any v l p W (hv.below hb))
  have GL := hidIt (fun (d : List Bool) (n : Int) W (hp : LdP w.heap.size (w.heap.size + 1 + 1) (w.heap.size + 1) v l d W) => lead_any w.heap.size (w.heap.size + 1 + 1) (w.heap.size + 1) v l d n W hp (by obtain ⟨ao, cap, e, -⟩ := hv; exact ⟨ao, cap, e⟩))
  obtain ⟨i0, hi, hz0, hz1, hz2⟩ := info_parts Try.infoB
  obtain ⟨ao, cap, rfl, hc, hm, _⟩ := hv
  obtain ⟨ao2, cap2, rfl, hc2, hm2, _⟩ := hu
  unfold maxLen at hm hm2
  unfold IN.val at GT0
  have hgl : w.heap.size ≤ w.heap.size + 1 := Nat.le_succ _
  have HZ0 : Hid (lead2 l h (lead1 l 0 (l.drop 0) (setB (List.replicate l.length false) 0)) = leadZ l h) := rfl
  generalize leadZ l h = Z at *
  have hA1 := below_alloc w (.cells #[.slice ao l.length cap] 23)
  have HP : Hid (LdP w.heap.size (w.heap.size + 1 + 1) (w.heap.size + 1) (.slice ao l.length cap) l (List.replicate l.length false) (((w.alloc (.cells #[.slice ao l.length cap] 23)).alloc (.cells (madeCells #[.bool false] l.length) 4)).alloc (.cells #[.slice (some ⟨w.heap.size + 1, 0, none⟩) l.length l.length] 41))) := by
    refine ⟨?_, ?_, ?_, by simp⟩
    · rw [(below_alloc _ _).block _ (by simp; omega), (below_alloc _ _).block _ (by simp)]; exact heap_alloc_new _ _
    · exact heap_alloc_new' (by simp)
    · rw [(below_alloc _ _).block _ (by simp), ← made_bools]; exact heap_alloc_new' (by simp)
  have HB : Hid (Below w.heap.size w (((w.alloc (.cells #[.slice ao l.length cap] 23)).alloc (.cells (madeCells #[.bool false] l.length) 4)).alloc (.cells #[.slice (some ⟨w.heap.size + 1, 0, none⟩) l.length l.length] 41))) := ((hA1.alloc (by simp) _).alloc (by simp; omega) _)
  clear hA1
  go_enter Try.func19, Try.ntmps19
  go_upto_region 3 with (at_make; refine wpList_make_row _ rfl _ _ 41 rfl 4 i0 (.bool false) Try.underlying41 hi hz0 hz1 rfl _ _ l.length rfl rfl (by rw [hz2]; omega) (by omega) ?_)
  generalize (((w.alloc (.cells #[.slice ao l.length cap] 23)).alloc (.cells (madeCells #[.bool false] l.length) 4)).alloc (.cells #[.slice (some ⟨w.heap.size + 1, 0, none⟩) l.length l.length] 41)) = W3 at *
  generalize w.heap.size + 1 + 1 = bb at *
  generalize w.heap.size + 1 = gl at *
  have hz := HB.out.size
  have b0 := cell_row HP.out.box 0 rfl
  have b1 := cell_row HP.out.bit 0 rfl
  go_upto_region 4 with (go_at_call 37; refine (GL.out _ _ _ HP.out).mono ?_; clear hz b0 b1; rintro e wn ⟨rfl, hp, ho⟩; have HB2 := hidIt (HB.out.trans (ho.below hgl)); have HP2 := hidIt hp; clear HB HP hp ho; have HB := HB2; have HP := HP2; clear HB2 HP2; have hz := HB.out.size; have b0 := cell_row HP.out.box 0 rfl; have b1 := cell_row HP.out.bit 0 rfl)
  go_wp2_with fail
  go_loopw [7, 8, 19] (fun _ _ i wr => ∃ (k : Nat) (d : List Bool), k ≤ l.length ∧ i = .int .i64 (k : Int) ∧ LdP w.heap.size bb gl (.slice ao l.length cap) l d wr ∧ Below w.heap.size w wr ∧ lead2 l h (lead1 l k (l.drop k) d) = Z) (fun _ _ i _ => l.length - (intOf i).toNat)
  case atStart => exact ⟨0, _, Nat.zero_le _, rfl, HP.out, HB.out, HZ0.out⟩
  case round =>
    clear HP HB HZ0 hz b0 b1
    obtain ⟨k, d, hk, rfl, hp, hb, hZ⟩ := hrel
    have HP := hidIt hp
    have HB := hidIt hb
    have HZ := hidIt hZ
    clear hp hb hZ
    have hz := HB.out.size
    have b0 := cell_row HP.out.box 0 rfl
    have b1 := cell_row HP.out.bit 0 rfl
    by_cases hlt : k < l.length
    · have hlt' : (k : Int) < (l.length : Int) := by omega
      obtain ⟨x, hx⟩ : ∃ x, l[k]? = some x := ⟨l[k], List.getElem?_eq_getElem hlt⟩
      obtain ⟨g, off, rfl, c0, c1, c2, c3⟩ := (HV.out.below HB.out).row hx
      rw [drop_at hx, lead1_cons] at HZ
      have GT := hidIt (fun W hb => GT0.out x W hb)
      have GB := hidIt (fun W => branch_any x.op W)
      have GE := hidIt (fun W => ends_any x.op W)
      have hA := below_alloc wr (.cells #[.int .i64 x.pl, .int .i64 x.op, .int .i64 x.a, .int .i64 x.b] 37)
      have HX := hidIt (heap_alloc_new wr (.cells #[.int .i64 x.pl, .int .i64 x.op, .int .i64 x.a, .int .i64 x.b] 37))
      have HB2 := hidIt (HB.out.trans (hA.mono HB.out.size))
      have HP2 := hidIt (HP.out.below hA)
      go_upto_region 7 with (fail)
      clear hA HB HP c0 c1 c2 c3 b0 b1 hz hx
      have HB := HB2
      have HP := HP2
      clear HB2 HP2
      generalize wr.alloc (.cells #[.int .i64 x.pl, .int .i64 x.op, .int .i64 x.a, .int .i64 x.b] 37) = wx at *
      generalize wr.heap.size = bx at *
      have hz := HB.out.size
      have b0 := cell_row HP.out.box 0 rfl
      have b1 := cell_row HP.out.bit 0 rfl
      have d0 := cell_row HX.out 0 rfl
      have d1 := cell_row HX.out 1 rfl
      have d2 := cell_row HX.out 2 rfl
      have d3 := cell_row HX.out 3 rfl
      by_cases h6 : kd x.op = 6
      · rw [decide_eq_true h6] at GB HZ
        go_wp2_with (first | (go_at_call 21; refine (GT.out _ HB.out).mono ?_; clear hz b0 b1 d0 d1 d2 d3; rintro e wn ⟨rfl, hb1⟩; have HX2 := hidIt ((hb1.block _ (Array.getElem?_eq_some_iff.1 HX.out).1).trans HX.out); have HB2 := hidIt (HB.out.trans (hb1.mono HB.out.size)); have HP2 := hidIt (HP.out.below hb1); clear HB HP hb1; have HB := HB2; have HP := HP2; clear HB2 HP2; have hz := HB.out.size; have b0 := cell_row HP.out.box 0 rfl; have b1 := cell_row HP.out.bit 0 rfl; clear HX; have HX := HX2; clear HX2; have d0 := cell_row HX.out 0 rfl; have d1 := cell_row HX.out 1 rfl; have d2 := cell_row HX.out 2 rfl; have d3 := cell_row HX.out 3 rfl) | (go_at_call 37; refine (GL.out _ _ _ HP.out).mono ?_; clear hz b0 b1 d0 d1 d2 d3; rintro e wn ⟨rfl, hp, ho⟩; have HX2 := hidIt ((ho.block _ (other_block HX.out HP.out.row (by decide))).trans HX.out); have HB2 := hidIt (HB.out.trans (ho.below hgl)); have HP2 := hidIt hp; clear HB HP hp ho; have HB := HB2; have HP := HP2; clear HB2 HP2; have hz := HB.out.size; have b0 := cell_row HP.out.box 0 rfl; have b1 := cell_row HP.out.bit 0 rfl; clear HX; have HX := HX2; clear HX2; have d0 := cell_row HX.out 0 rfl; have d1 := cell_row HX.out 1 rfl; have d2 := cell_row HX.out 2 rfl; have d3 := cell_row HX.out 3 rfl) | (go_at_call 34; refine (GB.out _).mono ?_; rintro e w' ⟨rfl, hww⟩; cases hww) | (go_at_call 20; refine (GE.out _).mono ?_; rintro e w' ⟨rfl, hww⟩; cases hww))
        exact ⟨⟨k + 1, _, by omega, by go_num, HP.out, HB.out, by simpa using HZ.out⟩, by simp [intOf]; omega⟩
      · rw [decide_eq_false h6] at GB HZ
        cases he : endsB x.op with
        | true =>
          rw [he] at GE HZ
          go_wp2_with (first | (go_at_call 21; refine (GT.out _ HB.out).mono ?_; clear hz b0 b1 d0 d1 d2 d3; rintro e wn ⟨rfl, hb1⟩; have HX2 := hidIt ((hb1.block _ (Array.getElem?_eq_some_iff.1 HX.out).1).trans HX.out); have HB2 := hidIt (HB.out.trans (hb1.mono HB.out.size)); have HP2 := hidIt (HP.out.below hb1); clear HB HP hb1; have HB := HB2; have HP := HP2; clear HB2 HP2; have hz := HB.out.size; have b0 := cell_row HP.out.box 0 rfl; have b1 := cell_row HP.out.bit 0 rfl; clear HX; have HX := HX2; clear HX2; have d0 := cell_row HX.out 0 rfl; have d1 := cell_row HX.out 1 rfl; have d2 := cell_row HX.out 2 rfl; have d3 := cell_row HX.out 3 rfl) | (go_at_call 37; refine (GL.out _ _ _ HP.out).mono ?_; clear hz b0 b1 d0 d1 d2 d3; rintro e wn ⟨rfl, hp, ho⟩; have HX2 := hidIt ((ho.block _ (other_block HX.out HP.out.row (by decide))).trans HX.out); have HB2 := hidIt (HB.out.trans (ho.below hgl)); have HP2 := hidIt hp; clear HB HP hp ho; have HB := HB2; have HP := HP2; clear HB2 HP2; have hz := HB.out.size; have b0 := cell_row HP.out.box 0 rfl; have b1 := cell_row HP.out.bit 0 rfl; clear HX; have HX := HX2; clear HX2; have d0 := cell_row HX.out 0 rfl; have d1 := cell_row HX.out 1 rfl; have d2 := cell_row HX.out 2 rfl; have d3 := cell_row HX.out 3 rfl) | (go_at_call 34; refine (GB.out _).mono ?_; rintro e w' ⟨rfl, hww⟩; cases hww) | (go_at_call 20; refine (GE.out _).mono ?_; rintro e w' ⟨rfl, hww⟩; cases hww))
          exact ⟨⟨k + 1, _, by omega, by go_num, HP.out, HB.out, by simpa using HZ.out⟩, by simp [intOf]; omega⟩
        | false =>
          rw [he] at GE HZ
          go_wp2_with (first | (go_at_call 21; refine (GT.out _ HB.out).mono ?_; clear hz b0 b1 d0 d1 d2 d3; rintro e wn ⟨rfl, hb1⟩; have HX2 := hidIt ((hb1.block _ (Array.getElem?_eq_some_iff.1 HX.out).1).trans HX.out); have HB2 := hidIt (HB.out.trans (hb1.mono HB.out.size)); have HP2 := hidIt (HP.out.below hb1); clear HB HP hb1; have HB := HB2; have HP := HP2; clear HB2 HP2; have hz := HB.out.size; have b0 := cell_row HP.out.box 0 rfl; have b1 := cell_row HP.out.bit 0 rfl; clear HX; have HX := HX2; clear HX2; have d0 := cell_row HX.out 0 rfl; have d1 := cell_row HX.out 1 rfl; have d2 := cell_row HX.out 2 rfl; have d3 := cell_row HX.out 3 rfl) | (go_at_call 37; refine (GL.out _ _ _ HP.out).mono ?_; clear hz b0 b1 d0 d1 d2 d3; rintro e wn ⟨rfl, hp, ho⟩; have HX2 := hidIt ((ho.block _ (other_block HX.out HP.out.row (by decide))).trans HX.out); have HB2 := hidIt (HB.out.trans (ho.below hgl)); have HP2 := hidIt hp; clear HB HP hp ho; have HB := HB2; have HP := HP2; clear HB2 HP2; have hz := HB.out.size; have b0 := cell_row HP.out.box 0 rfl; have b1 := cell_row HP.out.bit 0 rfl; clear HX; have HX := HX2; clear HX2; have d0 := cell_row HX.out 0 rfl; have d1 := cell_row HX.out 1 rfl; have d2 := cell_row HX.out 2 rfl; have d3 := cell_row HX.out 3 rfl) | (go_at_call 34; refine (GB.out _).mono ?_; rintro e w' ⟨rfl, hww⟩; cases hww) | (go_at_call 20; refine (GE.out _).mono ?_; rintro e w' ⟨rfl, hww⟩; cases hww))
          exact ⟨⟨k + 1, _, by omega, by go_num, HP.out, HB.out, by simpa using HZ.out⟩, by simp [intOf]; omega⟩
    · have hlt' : ¬ (k : Int) < (l.length : Int) := by omega
      obtain rfl : k = l.length := by omega
      rw [List.drop_length] at HZ
      have HZ2 : Hid (lead2 l h (h.drop 0 |> fun _ => d) = Z) := HZ.out
      have HZ3 : Hid (lead2 l (h.drop 0) d = Z) := HZ.out
      clear HZ HZ2
      go_wp2_with fail
      go_loopw [10, 44] (fun _ i wr => ∃ (k : Nat) (d : List Bool), k ≤ h.length ∧ i = .int .i64 (k : Int) ∧ LdP w.heap.size bb gl (.slice ao l.length cap) l d wr ∧ Below w.heap.size w wr ∧ lead2 l (h.drop k) d = Z) (fun _ i _ => h.length - (intOf i).toNat)
      case atStart => exact ⟨0, _, Nat.zero_le _, rfl, HP.out, HB.out, HZ3.out⟩
      case round =>
        clear HP HB HZ3 hz b0 b1
        obtain ⟨k, d, hk, rfl, hp, hb, hZ⟩ := hrel
        have HP := hidIt hp
        have HB := hidIt hb
        have HZ := hidIt hZ
        clear hp hb hZ
        have hz := HB.out.size
        have b0 := cell_row HP.out.box 0 rfl
        have b1 := cell_row HP.out.bit 0 rfl
        by_cases hlt : k < h.length
        · have hlt' : (k : Int) < (h.length : Int) := by omega
          obtain ⟨x, hx⟩ : ∃ x, h[k]? = some x := ⟨h[k], List.getElem?_eq_getElem hlt⟩
          obtain ⟨g, off, rfl, c0, c1, c2, c3⟩ := (HU.out.below HB.out).row hx
          rw [drop_at hx, lead2_cons] at HZ
          have hA := below_alloc wr (.cells #[.int .i64 x.f, .int .i64 x.t, .int .i64 x.a, .string x.ty] 44)
          have HX := hidIt (heap_alloc_new wr (.cells #[.int .i64 x.f, .int .i64 x.t, .int .i64 x.a, .string x.ty] 44))
          have HB2 := hidIt (HB.out.trans (hA.mono HB.out.size))
          have HP2 := hidIt (HP.out.below hA)
          go_upto_region 14 with (fail)
          clear hA HB HP c0 c1 c2 c3 b0 b1 hz hx
          have HB := HB2
          have HP := HP2
          clear HB2 HP2
          generalize wr.alloc (.cells #[.int .i64 x.f, .int .i64 x.t, .int .i64 x.a, .string x.ty] 44) = wx at *
          generalize wr.heap.size = bx at *
          have hz := HB.out.size
          have b0 := cell_row HP.out.box 0 rfl
          have b1 := cell_row HP.out.bit 0 rfl
          have d0 := cell_row HX.out 0 rfl
          have d1 := cell_row HX.out 1 rfl
          have d2 := cell_row HX.out 2 rfl
          have d3 := cell_row HX.out 3 rfl
          go_wp2_with (first | (go_at_call 13; refine (GF.out _ _ HB.out).mono ?_; clear hz b0 b1 d0 d1 d2 d3; rintro e wn ⟨rfl, hb1⟩; have HX2 := hidIt ((hb1.block _ (Array.getElem?_eq_some_iff.1 HX.out).1).trans HX.out); have HB2 := hidIt (HB.out.trans (hb1.mono HB.out.size)); have HP2 := hidIt (HP.out.below hb1); clear HB HP hb1; have HB := HB2; have HP := HP2; clear HB2 HP2; have hz := HB.out.size; have b0 := cell_row HP.out.box 0 rfl; have b1 := cell_row HP.out.bit 0 rfl; clear HX; have HX := HX2; clear HX2; have d0 := cell_row HX.out 0 rfl; have d1 := cell_row HX.out 1 rfl; have d2 := cell_row HX.out 2 rfl; have d3 := cell_row HX.out 3 rfl) | (go_at_call 37; refine (GL.out _ _ _ HP.out).mono ?_; clear hz b0 b1 d0 d1 d2 d3; rintro e wn ⟨rfl, hp, ho⟩; have HX2 := hidIt ((ho.block _ (other_block HX.out HP.out.row (by decide))).trans HX.out); have HB2 := hidIt (HB.out.trans (ho.below hgl)); have HP2 := hidIt hp; clear HB HP hp ho; have HB := HB2; have HP := HP2; clear HB2 HP2; have hz := HB.out.size; have b0 := cell_row HP.out.box 0 rfl; have b1 := cell_row HP.out.bit 0 rfl; clear HX; have HX := HX2; clear HX2; have d0 := cell_row HX.out 0 rfl; have d1 := cell_row HX.out 1 rfl; have d2 := cell_row HX.out 2 rfl; have d3 := cell_row HX.out 3 rfl))
          exact ⟨⟨k + 1, _, by omega, by go_num, HP.out, HB.out, HZ.out⟩, by simp [intOf]; omega⟩
        · have hlt' : ¬ (k : Int) < (h.length : Int) := by omega
          obtain rfl : k = h.length := by omega
          rw [List.drop_length] at HZ
          have HZ2 : Hid (d = Z) := HZ.out
          clear HZ
          go_wp2_with fail
          go_ret
          obtain rfl := HZ2.out
          exact ⟨gl, rfl, hgl, HP.out.row, HP.out.len, HB.out⟩
end Go.Proofs.Ytbmfkbgncjldjab
