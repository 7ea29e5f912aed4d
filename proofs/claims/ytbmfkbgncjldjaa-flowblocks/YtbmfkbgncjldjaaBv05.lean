/- Texts PV PI DRN DRM. -/
import Derived.Test.YtbmfkbgncjldjaaBv04
import Derived.Deep.RegionHeld3
import Derived.Deep.RegionLaw
import Derived.Handy
import Derived.Deep.QuietTactic
import Derived.BigQuiet
namespace Go.Proofs.Ytbmfkbgncjldjaa.P3
open Go.RowKit
def ceq (c d : CD) : Bool := (c.kind == d.kind) && (c.n == d.n) && (c.cls.toList == d.cls.toList) && (c.nm.toList == d.nm.toList) && (c.dsc.toList == d.dsc.toList)
theorem run_ceq (w : World) (c d : CD) : (binOp .eql 153 c.val d.val).run Try.prog w = .ok (.bool (ceq c d)) w := by
  unfold CD.val ceq
  go_simp
  by_cases h1 : c.kind = d.kind
  · by_cases h2 : c.n = d.n
    · by_cases h3 : c.cls.toList = d.cls.toList
      · by_cases h4 : c.nm.toList = d.nm.toList
        · by_cases h5 : c.dsc.toList = d.dsc.toList <;> simp [h1, h2, h3, h4, h5]
        · simp [h1, h2, h3, h4]
      · simp [h1, h2, h3]
    · simp [h1, h2]
  · simp [h1]
theorem bytes_ext {a b : ByteArray} (h : a.toList = b.toList) : a = b := by
  rw [Lib.toList_data, Lib.toList_data] at h
  rw [← D.str_data a, ← D.str_data b, h]
theorem ceq_iff (c d : CD) : ceq c d = true ↔ c = d := by
  constructor
  · intro h
    simp only [ceq, Bool.and_eq_true, beq_iff_eq] at h
    obtain ⟨⟨⟨⟨h1, h2⟩, h3⟩, h4⟩, h5⟩ := h
    cases c; cases d
    simp only at h1 h2 h3 h4 h5
    rw [h1, h2, bytes_ext h3, bytes_ext h4, bytes_ext h5]
  · rintro rfl; simp [ceq]

structure CD.Ok (c : CD) : Prop extends c.Fits where
  nlo : -2147483648 ≤ c.n
  nhi : c.n ≤ 2147483647

structure CAt (w : World) (g o : Nat) (c : CD) : Prop where
  c0 : w.cell? ⟨g, o, none⟩ = some (.int .i64 c.kind)
  c1 : w.cell? ⟨g, o + 1, none⟩ = some (.int .i32 c.n)
  c2 : w.cell? ⟨g, o + 2, none⟩ = some (.string c.cls)
  c3 : w.cell? ⟨g, o + 3, none⟩ = some (.string c.nm)
  c4 : w.cell? ⟨g, o + 4, none⟩ = some (.string c.dsc)
theorem CAt.below {w wr : World} {g o : Nat} {c : CD} (h : CAt w g o c) (hb : Below w.heap.size w wr) : CAt wr g o c :=
  ⟨cell_later hb h.c0, cell_later hb h.c1, cell_later hb h.c2, cell_later hb h.c3, cell_later hb h.c4⟩
theorem CAt.block {w wr : World} {g o : Nat} {c : CD} (h : CAt w g o c) (hb : wr.heap[g]? = w.heap[g]?) : CAt wr g o c := by
  have k : ∀ o, wr.cell? ⟨g, o, none⟩ = w.cell? ⟨g, o, none⟩ := fun o => World.cell?_of_block (a := ⟨g, o, none⟩) hb
  exact ⟨(k _).trans h.c0, (k _).trans h.c1, (k _).trans h.c2, (k _).trans h.c3, (k _).trans h.c4⟩
def CLies (w : World) (g off : Nat) (l : List CD) : Prop := ∀ (i : Nat) c, l[i]? = some c → CAt w g (off + i * 5) c
def CView (w : World) (v : Value) (l : List CD) : Prop :=
  ∃ ao cap, v = .slice ao l.length cap ∧ l.length ≤ cap ∧ cap ≤ maxLen ∧ (∀ c ∈ l, c.Ok) ∧ (l = [] ∨ ∃ g off, ao = some ⟨g, off, none⟩ ∧ CLies w g off l)
theorem CView.below {w wr : World} {v : Value} {l : List CD} (h : CView w v l) (hb : Below w.heap.size w wr) : CView wr v l := by
  obtain ⟨ao, cap, rfl, hc, hm, hk, hl⟩ := h
  refine ⟨ao, cap, rfl, hc, hm, hk, ?_⟩
  rcases hl with h | ⟨g, off, e, hl⟩
  · exact .inl h
  · exact .inr ⟨g, off, e, fun i c hi => (hl i c hi).below hb⟩
theorem CView.drewN {w : World} {v : Value} {l : List CD} (h : CView w v l) (q : Nat) : CView (w.drewN q) v l := by
  obtain ⟨ao, cap, rfl, hc, hm, hk, hl⟩ := h
  refine ⟨ao, cap, rfl, hc, hm, hk, ?_⟩
  rcases hl with h | ⟨g, off, e, hl⟩
  · exact .inl h
  · exact .inr ⟨g, off, e, fun i c hi => (hl i c hi).block rfl⟩
theorem CView.ok {w : World} {v : Value} {l : List CD} (h : CView w v l) : ∀ c ∈ l, c.Ok := by obtain ⟨_, _, _, _, _, h, _⟩ := h; exact h
theorem CView.nil (w : World) : CView w (.slice none 0 0) [] := ⟨none, 0, rfl, Nat.le_refl _, by unfold maxLen; omega, by simp, .inl rfl⟩

def ccells (l : List CD) : List Value := l.flatMap CD.cells
theorem ccells_cons (c : CD) (l : List CD) : ccells (c :: l) = c.cells ++ ccells l := rfl
theorem ccells_append (a b : List CD) : ccells (a ++ b) = ccells a ++ ccells b := by simp [ccells]
theorem ccells_len (l : List CD) : (ccells l).length = l.length * 5 := by
  induction l with
  | nil => rfl
  | cons c l ih => rw [ccells_cons, List.length_append, ih]; simp [CD.cells]; omega
theorem ccells_one (l : List CD) : ∀ u ∈ ccells l, u.oneCell' = true := by
  intro u hu
  simp only [ccells, List.mem_flatMap, CD.cells] at hu
  obtain ⟨c, _, hu⟩ := hu
  simp at hu
  rcases hu with rfl | rfl | rfl | rfl | rfl <;> rfl
theorem ccells_get : ∀ (l : List CD) (i : Nat) (c : CD), l[i]? = some c → ∀ j, j < 5 → (ccells l)[i * 5 + j]? = c.cells[j]? := by
  intro l
  induction l with
  | nil => intro i c h; simp at h
  | cons d l ih =>
    intro i c h j hj
    rw [ccells_cons]
    cases i with
    | zero =>
      simp at h; subst h
      rw [Nat.zero_mul, Nat.zero_add]
      exact List.getElem?_append_left (by simp [CD.cells]; omega)
    | succ i =>
      have hi : l[i]? = some c := by simpa using h
      rw [List.getElem?_append_right (by simp [CD.cells]; omega)]
      have e : (i + 1) * 5 + j - d.cells.length = i * 5 + j := by simp [CD.cells]; omega
      rw [e]
      exact ih i c hi j hj
theorem addr_add (g off j : Nat) : (⟨g, off, none⟩ : Addr).add j = ⟨g, off + j, none⟩ := by unfold Addr.add; split <;> simp_all
theorem CLies.cells {w : World} {g off : Nat} {l : List CD} (h : CLies w g off l) (j : Nat) (u : Value) (hj : (ccells l)[j]? = some u) : w.cell? ((⟨g, off, none⟩ : Addr).add j) = some u := by
  rw [addr_add]
  have hlt : j < l.length * 5 := by rw [← ccells_len]; exact (List.getElem?_eq_some_iff.1 hj).1
  have hi : j / 5 < l.length := by omega
  obtain ⟨c, hc⟩ : ∃ c, l[j / 5]? = some c := ⟨_, List.getElem?_eq_getElem hi⟩
  have e := ccells_get l (j / 5) c hc (j % 5) (by omega)
  rw [show j / 5 * 5 + j % 5 = j by omega, hj] at e
  have hA := h (j / 5) c hc
  have h5 : j % 5 < 5 := by omega
  have ej : off + j = off + j / 5 * 5 + j % 5 := by omega
  rw [ej]
  generalize j % 5 = r at *
  generalize off + j / 5 * 5 = o at *
  match r, h5, e with
  | 0, _, e => simp [CD.cells] at e; subst e; exact hA.c0
  | 1, _, e => simp [CD.cells] at e; subst e; exact hA.c1
  | 2, _, e => simp [CD.cells] at e; subst e; exact hA.c2
  | 3, _, e => simp [CD.cells] at e; subst e; exact hA.c3
  | 4, _, e => simp [CD.cells] at e; subst e; exact hA.c4
theorem CLies.of_cells {w : World} {g off : Nat} {l : List CD} (h : ∀ j u, (ccells l)[j]? = some u → w.cell? ((⟨g, off, none⟩ : Addr).add j) = some u) : CLies w g off l := by
  intro i c hi
  have k := fun j (hj : j < 5) u (hu : c.cells[j]? = some u) => by
    have := h (i * 5 + j) u ((ccells_get l i c hi j hj).trans hu)
    rw [addr_add, ← Nat.add_assoc] at this
    exact this
  exact ⟨k 0 (by omega) _ rfl, k 1 (by omega) _ rfl, k 2 (by omega) _ rfl, k 3 (by omega) _ rfl, k 4 (by omega) _ rfl⟩
theorem CView.of_own {w : World} {B : Nat} {v : Value} {l : List CD} (h : w.ownsRow B 153 5 v l.length (ccells l)) (hk : ∀ c ∈ l, c.Ok) : CView w v l := by
  rcases h.2 with ⟨rfl, h0⟩ | ⟨g, cap, cur, rfl, _, hg, h1, h2, h3, h4⟩
  · have : l = [] := List.length_eq_zero_iff.1 h0
    subst this
    exact CView.nil w
  · exact ⟨some ⟨g, 0, none⟩, cap, rfl, h1, h2, hk, .inr ⟨g, 0, rfl, CLies.of_cells (h.cells (g := g) rfl)⟩⟩
theorem cown_slice {w : World} {B n : Nat} {v : Value} {xs : List Value} (h : w.ownsRow B 153 5 v n xs) : ∃ ao cap, v = .slice ao n cap := by
  rcases h.2 with ⟨rfl, rfl⟩ | ⟨g, cap, cur, rfl, _⟩
  · exact ⟨_, _, rfl⟩
  · exact ⟨_, _, rfl⟩

def zeroC : CD := ⟨0, 0, ⟨#[]⟩, ⟨#[]⟩, ⟨#[]⟩⟩


theorem Try.info153 : (Try.prog.info? 153).map (fun i => (i.zero, i.size, i.bytes)) = some (some zeroC.val, 5, 64) := by kernel_rfl

end Go.Proofs.Ytbmfkbgncjldjaa.P3
namespace Go.Proofs.Ytbmfkbgncjldjaa.P3
open Go.RowKit
def idxO (c : CD) : List CD → Option Nat
  | [] => none
  | d :: l => if ceq c d = true then some 0 else (idxO c l).map (· + 1)
theorem idxO_some {c : CD} : ∀ {l : List CD} {k : Nat} {d : CD}, l[k]? = some d → ceq c d = true → (∀ x ∈ l.take k, ceq c x = false) → idxO c l = some k := by
  intro l
  induction l with
  | nil => intro k d h; simp at h
  | cons x l ih =>
    intro k d h he hn
    cases k with
    | zero => simp at h; subst h; simp [idxO, he]
    | succ k =>
      have hx := hn x (by simp)
      simp only [idxO, hx, Bool.false_eq_true, if_false]
      rw [ih (k := k) (d := d) (by simpa using h) he (fun y hy => hn y (by simp [hy]))]
      rfl
theorem idxO_none {c : CD} {l : List CD} (hn : ∀ x ∈ l, ceq c x = false) : idxO c l = none := by
  induction l with
  | nil => rfl
  | cons x l ih =>
    simp only [idxO, hn x (by simp), Bool.false_eq_true, if_false]
    rw [ih (fun y hy => hn y (by simp [hy]))]
    rfl
theorem box_at (w : World) (c : CD) : CAt (w.alloc (.cells #[.int .i64 c.kind, .int .i32 c.n, .string c.cls, .string c.nm, .string c.dsc] 153)) w.heap.size 0 c := by
  have h := heap_alloc_new w (.cells #[.int .i64 c.kind, .int .i32 c.n, .string c.cls, .string c.nm, .string c.dsc] 153)
  constructor
  all_goals rw [cell_of_row _ _ _ _ 153 (0, 0) h]; rfl

theorem below_drewN {B : Nat} {w W : World} (h : Below B w W) (q : Nat) : Below B w (W.drewN q) := ⟨h.os, h.tape, h.output, h.size, h.block⟩

end Go.Proofs.Ytbmfkbgncjldjaa.P3
namespace Go.Proofs.Ytbmfkbgncjldjaa.P3.D
open Go.RowKit
def AllOk (s : ByteArray) (k : Nat) : Prop := k ≤ s.size ∧ ∀ j, j < k → ∃ c, s.data.toList[j]? = some c ∧ okc j c = true
theorem AllOk.more {s : ByteArray} {k : Nat} (h : AllOk s k) (h1 : k < s.size) (h3 : okc k s[k] = true) : AllOk s (k + 1) := by
  refine ⟨by omega, fun j hj => ?_⟩
  by_cases e : j = k
  · subst e; exact ⟨_, at_get s j h1, h3⟩
  · exact h.2 j (by omega)
theorem no_name {s : ByteArray} {k : Nat} (h1 : k < s.size) (h3 : okc k s[k] = false) : nameB s.data.toList = false := by
  cases h : nameB s.data.toList with
  | false => rfl
  | true =>
    have := ((nameB_iff _).1 h).2.2 k _ (at_get s k h1)
    rw [h3] at this; cases this
theorem AllOk.name {s : ByteArray} (h : AllOk s s.size) (h1 : 1 ≤ s.size) (h2 : s.size ≤ 64) : nameB s.data.toList = true := by
  rw [nameB_iff]
  refine ⟨by rw [← size_len]; exact h1, by rw [← size_len]; exact h2, fun j c hj => ?_⟩
  obtain ⟨c', e1, e2⟩ := h.2 j (by rw [size_len]; exact (List.getElem?_eq_some_iff.1 hj).1)
  rw [e1] at hj; cases hj; exact e2
theorem no_len {s : ByteArray} (h : ¬ (1 ≤ s.size ∧ s.size ≤ 64)) : nameB s.data.toList = false := by
  cases h' : nameB s.data.toList with
  | false => rfl
  | true =>
    have := (nameB_iff _).1 h'
    rw [size_len] at h
    exact absurd ⟨this.1, this.2.1⟩ h

set_option maxRecDepth 8000 in
set_option maxHeartbeats 4000000 in
theorem rname_any (s : ByteArray) (w : World) (hs : s.size ≤ 9223372036854775807) :
    Calls Try.prog 129 #[.string s] w fun e w' => e = .returned (.bool (nameB s.data.toList)) ∧ w' = w := by
  go_enter Try.func129, Try.ntmps129
  go_wp2
  go_loop [3] (fun n => ∃ (k : Nat), n = .int .i64 (k : Int) ∧ k ≤ s.size ∧ Hid (AllOk s k)) (fun i => s.size - (intOf i).toNat)
  case atStart =>
    exact ⟨0, rfl, by omega, ⟨by omega, fun j hj => by omega⟩⟩
  case round =>
    obtain ⟨k, rfl, hk, hsee⟩ := hrel
    by_cases h1 : k < s.size
    · have h1' : (k : Int) < (s.size : Int) := by omega
      go_wp2
      all_goals first
        | (refine ⟨⟨k + 1, by go_num, by omega, hsee.out.more h1 ((okc_iff _ _).2 (by simp_all; omega))⟩, by simp [intOf]; omega⟩)
        | (go_ret; refine ⟨ret_bool ?_, rfl⟩; rw [no_name h1 ((okc_not _ _).2 (by simp_all; omega))])
        | (exfalso; simp_all; done)
        | (exfalso; simp_all; omega)
    · have h1' : ¬ (k : Int) < (s.size : Int) := by omega
      obtain rfl : k = s.size := by omega
      by_cases c1 : 1 ≤ s.size
      · have c1' : (1 : Int) ≤ (s.size : Int) := by omega
        by_cases c2 : s.size ≤ 64
        · have c2' : (s.size : Int) ≤ 64 := by omega
          have F := hidIt (hsee.out.name c1 c2)
          go_wp2
          go_ret
          exact ⟨by rw [F.out]; rfl, rfl⟩
        · have c2' : ¬ (s.size : Int) ≤ 64 := by omega
          have F := hidIt (no_len (s := s) (by omega))
          go_wp2
          go_ret
          exact ⟨by rw [F.out]; rfl, rfl⟩
      · have c1' : ¬ (1 : Int) ≤ (s.size : Int) := by omega
        have F := hidIt (no_len (s := s) (by omega))
        go_wp2
        go_ret
        exact ⟨by rw [F.out]; rfl, rfl⟩

def NoSemi (s : ByteArray) (k : Nat) : Prop := ∀ j, 1 ≤ j → j < k → ∀ h : j < s.size, s[j].toNat ≠ 59
theorem NoSemi.more {s : ByteArray} {k : Nat} (h : NoSemi s k) (hk : k < s.size) (h1 : s[k].toNat ≠ 59) : NoSemi s (k + 1) := by
  intro j h2 h3 h4
  by_cases e : j = k
  · subst e; exact h1
  · exact h j h2 (by omega) h4
theorem base_semi (s : ByteArray) (k : Nat) (h0 : 0 < s.size) (hc : s[0].toNat = 76) (hn : NoSemi s k) (hk1 : 1 ≤ k) (hk : k < s.size) (h59 : s[k].toNat = 59) :
    base s.data.toList = if nameB (s.extract 1 k).data.toList = true then k + 1 else 0 := by
  have e0 := base_L s 0 h0 hc
  rw [List.drop_zero, show (0 + 1 : Nat) = 1 from rfl] at e0
  have et : (s.extract 1 s.size).data.toList = (s.extract 1 k).data.toList ++ 59 :: s.data.toList.drop (k + 1) := by
    rw [ext_data, Lib.extract_data]
    have e1 : s.data.toList.drop k = 59 :: s.data.toList.drop (k + 1) := by rw [drop_at s k hk, u8_of h59 (by omega)]; rfl
    rw [← e1]
    conv => lhs; rw [← List.take_append_drop (k - 1) (s.data.toList.drop 1)]
    rw [List.drop_drop, show 1 + (k - 1) = k by omega]
  by_cases hN : nameB (s.extract 1 k).data.toList = true
  · rw [if_pos hN]
    have hN' := (nameB_iff _).1 hN
    have e2 := nl_name (rest := s.data.toList.drop (k + 1)) hN'
    rw [← et] at e2
    have e3 : (s.extract 1 k).data.toList.length = k - 1 := by
      rw [Lib.extract_data, List.length_take, List.length_drop, ← size_len]; omega
    rw [e0, e2, e3, if_pos]
    · omega
    · refine ⟨by have := hN'.1; omega, ?_⟩
      rw [semi_at s 1 (k - 1) (by omega)]
      have : 1 + (k - 1) = k := by omega
      simp only [this]; exact h59
  · rw [if_neg hN, e0, if_neg]
    rintro ⟨h1, h2⟩
    apply hN
    rw [nameB_iff]
    have hlt : nl (s.extract 1 s.size).data.toList < (s.data.toList.drop 1).length := by
      rcases Nat.lt_or_ge (nl (s.extract 1 s.size).data.toList) (s.data.toList.drop 1).length with h | h
      · exact h
      · rw [List.getElem?_eq_none h] at h2; cases h2
    rw [List.length_drop, ← size_len] at hlt
    have h3 := (semi_at s 1 _ (by omega)).1 h2
    have h4 := name_take h1
    obtain ⟨K, hK⟩ : ∃ K, nl (s.extract 1 s.size).data.toList = K := ⟨_, rfl⟩
    simp only [hK] at h3 h4 hlt h1
    have hKk : 1 + K = k := by
      rcases Nat.lt_trichotomy (1 + K) k with h | h | h
      · exact absurd h3 (hn (1 + K) (by omega) h (by omega))
      · exact h
      · exfalso
        have := nl_ok (l := (s.extract 1 s.size).data.toList) (j := k - 1) (by omega)
        obtain ⟨c, h5, h6⟩ := this
        rw [ext_data, List.getElem?_drop, show 1 + (k - 1) = k by omega, at_get s k hk] at h5
        cases h5
        rw [u8_of h59 (by omega)] at h6
        exact absurd h6 (by rw [show UInt8.ofNat 59 = 59 from rfl, okc_semi]; simp)
    rw [ext_data] at h4
    rw [Lib.extract_data, show k - 1 = K by omega]
    exact h4
theorem base_nosemi (s : ByteArray) (h0 : 0 < s.size) (hc : s[0].toNat = 76) (hn : NoSemi s s.size) : base s.data.toList = 0 := by
  have e0 := base_L s 0 h0 hc
  rw [List.drop_zero, show (0 + 1 : Nat) = 1 from rfl] at e0
  rw [e0, if_neg]
  rintro ⟨h1, h2⟩
  have hlt : nl (s.extract 1 s.size).data.toList < (s.data.toList.drop 1).length := by
    rcases Nat.lt_or_ge (nl (s.extract 1 s.size).data.toList) (s.data.toList.drop 1).length with h | h
    · exact h
    · rw [List.getElem?_eq_none h] at h2; cases h2
  rw [List.length_drop, ← size_len] at hlt
  exact hn _ (by omega) (by omega) (by omega) ((semi_at s 1 _ (by omega)).1 h2)

set_option maxRecDepth 8000 in
set_option maxHeartbeats 4000000 in
theorem one_base (s : ByteArray) (w : World) (hs : s.size ≤ 9223372036854775807) (h0 : 0 < s.size) (hc : s[0].toNat ≠ 91) :
    Calls Try.prog 130 #[.string s] w fun e w' => e = .returned (.int .i64 (base s.data.toList)) ∧ w' = w := by
  have e2 := toList_ne s h0
  have b0 : ((s[0].toNat : Int) == 91) = false := by simp; omega
  by_cases c1 : s[0].toNat = 73
  · have e := base_I s 0 h0 c1
    rw [List.drop_zero] at e
    rw [e]
    have b1 : ((s[0].toNat : Int) == 73) = true := by simp; omega
    go_enter Try.func130, Try.ntmps130
    go_wp2
    go_ret
    exact ⟨rfl, rfl⟩
  · have b1 : ((s[0].toNat : Int) == 73) = false := by simp; omega
    by_cases c2 : s[0].toNat = 76
    · have b2 : ((s[0].toNat : Int) == 76) = true := by simp; omega
      go_enter Try.func130, Try.ntmps130
      go_wp2
      go_loop [4] (fun n => ∃ (k : Nat), n = .int .i64 (k : Int) ∧ 1 ≤ k ∧ k ≤ s.size ∧ Hid (NoSemi s k)) (fun i => s.size - (intOf i).toNat)
      case atStart =>
        exact ⟨1, rfl, by omega, by omega, fun j h1 h2 => by omega⟩
      case round =>
        obtain ⟨k, rfl, hk1, hk, hns⟩ := hrel
        by_cases h1 : k < s.size
        · have h1' : (k : Int) < (s.size : Int) := by omega
          by_cases h2 : s[k].toNat = 59
          · have b3 : ((s[k].toNat : Int) == 59) = true := by simp; omega
            have F := hidIt (base_semi s k h0 c2 hns.out hk1 h1 h2)
            have hN := hidIt (rname_any (s.extract 1 k) w (by rw [size_len, Lib.extract_data, List.length_take, List.length_drop, ← size_len]; omega))
            by_cases h3 : nameB (s.extract 1 k).data.toList = true
            · rw [h3] at hN F
              clear h3
              go_wp2_with fail
              refine hN.out.mono ?_
              rintro e w' ⟨rfl, hww⟩; cases hww
              go_wp2
              go_ret
              exact ⟨ret_int (by rw [F.out]; simp), rfl⟩
            · simp only [Bool.not_eq_true] at h3
              rw [h3] at hN F
              clear h3
              go_wp2_with fail
              refine hN.out.mono ?_
              rintro e w' ⟨rfl, hww⟩; cases hww
              go_wp2
              go_ret
              exact ⟨ret_int (by rw [F.out]; simp), rfl⟩
          · have b3 : ((s[k].toNat : Int) == 59) = false := by simp; omega
            go_wp2
            exact ⟨⟨k + 1, by go_num, by omega, by omega, hns.out.more h1 h2⟩, by simp [intOf]; omega⟩
        · have h1' : ¬ (k : Int) < (s.size : Int) := by omega
          obtain rfl : k = s.size := by omega
          have F := hidIt (base_nosemi s h0 c2 hns.out)
          go_wp2
          go_ret
          exact ⟨by rw [F.out]; rfl, rfl⟩
    · have e := base_no s 0 h0 c1 c2
      rw [List.drop_zero] at e
      rw [e]
      have b2 : ((s[0].toNat : Int) == 76) = false := by simp; omega
      go_enter Try.func130, Try.ntmps130
      go_wp2
      go_ret
      exact ⟨rfl, rfl⟩

theorem base_sign (t : Bs) : base (91 :: t) = 0 := by simp [base]

set_option maxRecDepth 8000 in
set_option maxHeartbeats 4000000 in
theorem one_any (s : ByteArray) (w : World) (hs : s.size ≤ 9223372036854775807) :
    Calls Try.prog 130 #[.string s] w fun e w' => e = .returned (.int .i64 (flen s.data.toList)) ∧ w' = w := by
  by_cases h : s.size = 0
  · have e1 : s.data.toList = [] := List.eq_nil_of_length_eq_zero (by rw [← size_len]; exact h)
    have e2 : s.toList = [] := by rw [Lib.toList_data]; exact e1
    rw [e1]
    clear e1
    go_enter Try.func130, Try.ntmps130
    go_wp2
    go_ret
    exact ⟨rfl, rfl⟩
  · have h0 : 0 < s.size := by omega
    by_cases hc : s[0].toNat = 91
    · have e2 := toList_ne s h0
      have b0 : ((s[0].toNat : Int) == 91) = true := by simp; omega
      have b1 : ((s[0].toNat : Int) == 73) = false := by simp; omega
      rw [flen_arr s h0 hc]
      by_cases h1 : s.size = 1
      · rw [base_end s 1 (by omega), if_pos rfl]
        have h1' : ¬ (1 : Int) < (s.size : Int) := by omega
        go_enter Try.func130, Try.ntmps130
        go_wp2
        go_ret
        exact ⟨rfl, rfl⟩
      · have h1' : (1 : Int) < (s.size : Int) := by omega
        have h1n : 1 < s.size := by omega
        by_cases hd : s[1].toNat = 91
        · have b2 : ((s[1].toNat : Int) == 91) = true := by simp; omega
          have b2' : ((s[1].toNat : Int) != 91) = false := by simp; omega
          rw [drop_at s 1 h1n, u8_of hd (by omega), show UInt8.ofNat 91 = 91 from rfl, base_sign, if_pos rfl]
          go_enter Try.func130, Try.ntmps130
          go_wp2
          go_ret
          exact ⟨rfl, rfl⟩
        · have b2 : ((s[1].toNat : Int) == 91) = false := by simp; omega
          have b2' : ((s[1].toNat : Int) != 91) = true := by simp; omega
          have z : (s.extract 1 s.size).size = s.size - 1 := by rw [size_len, ext_data, List.length_drop, ← size_len]
          have hO := hidIt (one_base (s.extract 1 s.size) w (by omega) (by omega) (by
            have e := drop_at s 1 h1n
            have e' := at_get (s.extract 1 s.size) 0 (by omega)
            rw [ext_data, e] at e'
            simp at e'
            rw [← e']; exact hd))
          rw [ext_data] at hO
          have hb := (flen_le (s.data.toList)).2
          rw [flen_arr s h0 hc] at hb
          generalize base (s.data.toList.drop 1) = K at *
          by_cases hK : K = 0
          · subst hK
            rw [if_pos rfl]
            go_enter Try.func130, Try.ntmps130
            go_wp2_with fail
            refine hO.out.mono ?_
            rintro e w' ⟨rfl, hww⟩; cases hww
            go_wp2
            go_ret
            exact ⟨rfl, rfl⟩
          · rw [if_neg hK] at hb ⊢
            have hK' : (0 : Int) < (K : Int) := by omega
            go_enter Try.func130, Try.ntmps130
            go_wp2_with fail
            refine hO.out.mono ?_
            rintro e w' ⟨rfl, hww⟩; cases hww
            go_wp2
            go_ret
            exact ⟨ret_int (by omega), rfl⟩
    · rw [flen_no s h0 hc, List.drop_zero]
      exact one_base s w hs h0 hc
end Go.Proofs.Ytbmfkbgncjldjaa.P3.D
namespace Go.Proofs.Ytbmfkbgncjldjaa.P3.D
open Go.RowKit
set_option maxRecDepth 8000 in
set_option maxHeartbeats 1000000 in
theorem rfield_any (s : ByteArray) (w : World) (hs : s.size ≤ 9223372036854775807) :
    Calls Try.prog 128 #[.string s] w fun e w' => e = .returned (.bool (fieldB s.data.toList)) ∧ w' = w := by
  have hN := hidIt (one_any s w hs)
  by_cases h0 : s.size = 0
  · have e1 : s.data.toList = [] := List.eq_nil_of_length_eq_zero (by rw [← size_len]; exact h0)
    have e2 : s.toList = [] := by rw [Lib.toList_data]; exact e1
    rw [e1, show fieldB [] = false from rfl]
    clear e1 hN
    go_enter Try.func128, Try.ntmps128
    go_wp2
    go_ret
    exact ⟨rfl, rfl⟩
  · have e2 := toList_ne s (by omega)
    unfold fieldB
    rw [← size_len]
    generalize flen s.data.toList = K at *
    by_cases h2 : K = s.size
    · rw [decide_eq_true ⟨by omega, h2⟩]
      have b : ((K : Int) == (s.size : Int)) = true := by simp; omega
      go_enter Try.func128, Try.ntmps128
      go_wp2_with fail
      refine hN.out.mono ?_
      rintro e w' ⟨rfl, hww⟩; cases hww
      go_wp2
      go_ret
      exact ⟨rfl, rfl⟩
    · rw [decide_eq_false (fun h => h2 h.2)]
      have b : ((K : Int) == (s.size : Int)) = false := by simp; omega
      go_enter Try.func128, Try.ntmps128
      go_wp2_with fail
      refine hN.out.mono ?_
      rintro e w' ⟨rfl, hww⟩; cases hww
      go_wp2
      go_ret
      exact ⟨rfl, rfl⟩



theorem str_ne {s : ByteArray} {l : Bs} (h : s.data.toList ≠ l) : (s.toList == l) = false := by
  rw [Lib.toList_data]; simpa using h





theorem flat_unique {ps qs : List Bs} {a b : Bs} (hp : ∀ p ∈ ps, Fld p) (hq : ∀ p ∈ qs, Fld p) (ha : flen a = 0) (hb : flen b = 0) (h : ps.flatten ++ a = qs.flatten ++ b) : ps = qs ∧ a = b := by
  have h1 := lead_char (max ps.length qs.length) ps a hp (Nat.le_max_left _ _) (.inr ha)
  have h2 := lead_char (max ps.length qs.length) qs b hq (Nat.le_max_right _ _) (.inr hb)
  rw [h, h2] at h1
  simp only [Prod.mk.injEq] at h1
  exact ⟨h1.1.symm, h1.2.symm⟩
theorem meth_no {l : Bs} {ps : List Bs} {rest : Bs} (he : l = 40 :: (ps.flatten ++ rest)) (hp : ∀ p ∈ ps, Fld p) (h0 : flen rest = 0)
    (h : ∀ r, rest = 41 :: r → ps.length ≤ 8 → (r = [86] ∨ Fld r) → False) : meth l = none := by
  cases hm : meth l with
  | none => rfl
  | some x =>
    exfalso
    obtain ⟨qs, r⟩ := x
    obtain ⟨h1, h2, h3, h4⟩ := meth_inv hm
    rw [he] at h1
    simp only [List.cons.injEq, true_and] at h1
    obtain ⟨rfl, e⟩ := flat_unique hp h2 h0 (flen_close r) h1
    exact h r e h3 h4
theorem flen_nil : flen [] = 0 := rfl

set_option maxRecDepth 8000 in
set_option maxHeartbeats 1000000 in
theorem rmethod_bad (s : ByteArray) (w : World) (h : s.size = 0 ∨ ∃ h : 0 < s.size, s[0].toNat ≠ 40) :
    Calls Try.prog 127 #[.string s] w fun e w' => e = .returned (.tuple #[.slice none 0 0, .string ⟨#[]⟩, .bool false]) ∧ w' = w := by
  rcases h with h | ⟨h0, h⟩
  · have e1 : s.data.toList = [] := List.eq_nil_of_length_eq_zero (by rw [← size_len]; exact h)
    have e2 : s.toList = [] := by rw [Lib.toList_data]; exact e1
    clear e1
    go_enter Try.func127, Try.ntmps127
    go_wp2
    go_ret3
    exact ⟨rfl, rfl⟩
  · have e2 := toList_ne s h0
    have b : ((s[0].toNat : Int) == 40) = false := by simp; omega
    have b' : ((s[0].toNat : Int) != 40) = true := by simp; omega
    go_enter Try.func127, Try.ntmps127
    go_wp2
    go_ret3
    exact ⟨rfl, rfl⟩

def strLen : Value → Nat
  | .string s => s.size
  | _ => 0

set_option maxRecDepth 8000 in
set_option maxHeartbeats 8000000 in
theorem rmethod_open (s : ByteArray) (w : World) (t : Bs) (hs : s.size ≤ 1073741824) (h : s.data.toList = 40 :: t) :
    Calls Try.prog 127 #[.string s] w fun e w' => Below w.heap.size w w' ∧ MethAns s.data.toList w.heap.size e w' := by
  obtain ⟨i0, hi, hz0, hz1, hz2⟩ := info_parts Try.info9
  have h0 : 0 < s.size := by rw [size_len, h]; simp
  have hc : s[0].toNat = 40 := by
    have := at_get s 0 h0
    rw [h] at this; simp at this; rw [← this]; rfl
  have e2 := toList_ne s h0
  have b : ((s[0].toNat : Int) == 40) = true := by simp; omega
  have b' : ((s[0].toNat : Int) != 40) = false := by simp; omega
  have he := ext_end s 1
  rw [h, show List.drop 1 (40 :: t) = t from rfl] at he
  have ht : t.length + 1 = s.size := by rw [size_len, h]; simp
  have hl := hidIt h
  generalize s.data.toList = l at *
  clear h
  have hT : (str t).data.toList = t := rfl
  have hTs : (str t).size + 1 = s.size := by rw [str_size]; exact ht
  generalize str t = T at *
  go_enter Try.func127, Try.ntmps127
  go_wp2
  go_loopw [0, 5] (fun sv ov wr => ∃ (ps : List Bs) (S : ByteArray), sv = .string S ∧ wr.ownsRow w.heap.size 9 1 ov ps.length (scells ps) ∧ Below w.heap.size w wr ∧ ps.length + S.size ≤ 1073741824 ∧ Took t ps S) (fun sv _ _ => strLen sv)
  case atStart =>
    exact ⟨[], T, rfl, ⟨rfl, .inl ⟨rfl, rfl⟩⟩, Below.refl _ _, by simp; omega, ⟨hT.symm, by simp⟩⟩
  case round =>
    obtain ⟨ps, S, rfl, hown, hbw, hps, htk⟩ := hrel
    have hsz := hbw.size
    have HT := hidIt htk
    clear htk e2 b b' he hc
    obtain ⟨ao, cap, rfl⟩ := own_slice hown
    by_cases hS0 : S.size = 0
    · have e1 : S.data.toList = [] := List.eq_nil_of_length_eq_zero (by rw [← size_len]; exact hS0)
      have e2 : S.toList = [] := by rw [Lib.toList_data]; exact e1
      have FIN : Hid (meth l = none) := meth_no (rest := []) (by rw [hl.out, HT.out.eq, e1]) HT.out.fld flen_nil (fun r hr => by cases hr)
      clear e1
      go_wp2
      go_ret3
      exact ⟨hbw, .inr ⟨FIN.out, rfl⟩⟩
    · have hS1 : 0 < S.size := by omega
      have e2 := toList_ne S hS1
      by_cases hcl : S[0].toNat = 41
      · have b : ((S[0].toNat : Int) == 41) = true := by simp; omega
        have b' : ((S[0].toNat : Int) != 41) = false := by simp; omega
        have eS : S.data.toList = 41 :: S.data.toList.drop 1 := by
          have e := drop_at S 0 hS1
          rw [List.drop_zero, u8_of hcl (by omega)] at e
          exact e
        have he := ext_end S 1
        have HEQ : Hid (l = 40 :: (ps.flatten ++ 41 :: S.data.toList.drop 1)) := by
          show _ = _
          rw [hl.out, HT.out.eq]; conv => lhs; rw [eS]
        have hR : (str (List.drop 1 S.data.toList)).size ≤ 1073741824 := by rw [str_size, List.length_drop, ← size_len]; omega
        have hRF := fun w => hidIt (rfield_any (str (List.drop 1 S.data.toList)) w (by omega))
        rw [data_str] at hRF
        have HF := hidIt HT.out.fld
        clear HT eS
        have hRd : (str (List.drop 1 S.data.toList)).data.toList = List.drop 1 S.data.toList := rfl
        generalize List.drop 1 S.data.toList = r at *
        by_cases h8 : ps.length ≤ 8
        · have h8' : ¬ (8 : Int) < (ps.length : Int) := by omega
          by_cases hV : r = [86]
          · subst hV
            have FIN : Hid (meth l = some (ps, [86])) := meth_of ⟨HEQ.out, HF.out, h8, .inl rfl⟩
            have hne : (str [86]).toList = [86] := by rw [Lib.toList_data]; rfl
            go_wp2
            go_quiet (fail)
            go_wp2
            go_ret3
            exact ⟨⟨hbw.os, hbw.tape, hbw.output, hbw.size, hbw.block⟩, .inl ⟨_, _, _, FIN.out, rfl, hown⟩⟩
          · have hne' : ((str r).toList == [86]) = false := str_ne hV
            have hne2 : ((str r).toList != [86]) = true := by simpa using hne'
            by_cases hf : fieldB r = true
            · have FIN : Hid (meth l = some (ps, r)) := meth_of ⟨HEQ.out, HF.out, h8, .inr ((fieldB_iff _).1 hf)⟩
              rw [hf] at hRF
              clear hf hV
              go_wp2_with fail
              refine (hRF _).out.mono ?_
              rintro e w' ⟨rfl, hww⟩; cases hww
              go_wp2
              go_quiet (fail)
              go_wp2
              go_ret3
              exact ⟨⟨hbw.os, hbw.tape, hbw.output, hbw.size, hbw.block⟩, .inl ⟨_, _, _, FIN.out, rfl, hown⟩⟩
            · have FIN : Hid (meth l = none) := meth_no HEQ.out HF.out (flen_close r) (fun r' hr _ hx => by
                simp only [List.cons.injEq, true_and] at hr
                subst hr
                rcases hx with hx | hx
                · exact hV hx
                · exact hf ((fieldB_iff _).2 hx))
              simp only [Bool.not_eq_true] at hf
              rw [hf] at hRF
              clear hf hV
              go_wp2_with fail
              refine (hRF _).out.mono ?_
              rintro e w' ⟨rfl, hww⟩; cases hww
              go_wp2
              go_ret3
              exact ⟨hbw, .inr ⟨FIN.out, rfl⟩⟩
        · have h8' : (8 : Int) < (ps.length : Int) := by omega
          have FIN : Hid (meth l = none) := meth_no HEQ.out HF.out (flen_close r) (fun r' hr h _ => h8 h)
          go_wp2
          go_ret3
          exact ⟨hbw, .inr ⟨FIN.out, rfl⟩⟩
      · have b : ((S[0].toNat : Int) == 41) = false := by simp; omega
        have b' : ((S[0].toNat : Int) != 41) = true := by simp; omega
        have hN := hidIt (one_any S wr (by omega))
        have hle := flen_le S.data.toList
        rw [← size_len] at hle
        by_cases hK : flen S.data.toList = 0
        · have FIN : Hid (meth l = none) := meth_no (by rw [hl.out, HT.out.eq]) HT.out.fld hK (fun r hr _ _ => by
            apply hcl
            have := at_get S 0 hS1
            rw [hr] at this
            simp at this
            rw [← this]; rfl)
          rw [hK] at hN
          clear hK hle
          go_wp2_with fail
          refine hN.out.mono ?_
          rintro e w' ⟨rfl, hww⟩; cases hww
          go_wp2
          go_ret3
          exact ⟨hbw, .inr ⟨FIN.out, rfl⟩⟩
        · have HM := hidIt (HT.out.more hK)
          have e1 := ext_str S 0 (flen S.data.toList)
          rw [Nat.sub_zero, List.drop_zero] at e1
          generalize flen S.data.toList = K at *
          have hK0 : ((K : Int) == 0) = false := by simp; omega
          obtain ⟨hK1, hK2⟩ := hle
          go_wp2_with fail
          refine hN.out.mono ?_
          rintro e w' ⟨rfl, hww⟩; cases hww
          go_wp2_with (at_builtin; refine wpList_append_own_at _ rfl _ _ 55 rfl w.heap.size 9 i0 (.string ⟨#[]⟩) 1 16 Try.underlying55 hi hz0 hz1 hz2 rfl (by decide) _ _ _ rfl (hown.alloc _) _ 1 1 [.string (str (List.take K S.data.toList))] rfl rfl ?c1 ?c2 ?c3 ?c4 ?c5 ?_)
          case c1 =>
            intro j u hj
            match j, hj with
            | 0, hj => simp at hj; subst hj; simp [Addr.add]
            | (j + 1), hj => simp at hj
          case c2 => intro u hu; simp at hu; rcases hu with rfl; rfl
          case c3 => unfold maxLen; omega
          case c4 => omega
          case c5 => simp; omega
          intro v' w2 hown' hgrow _ hat
          go_wp2
          obtain ⟨ao', cap', rfl⟩ := own_slice hown'
          have hz : (S.extract K S.size).size = S.size - K := by rw [size_len, ext_data, List.length_drop, ← size_len]
          refine ⟨⟨ps ++ [List.take K S.data.toList], _, rfl, ?_, ?_, ?_, HM.out⟩, ?_⟩
          · rw [scells_snoc, List.length_append]; exact hown'
          · exact (hbw.alloc hsz _).grown hgrow (by simp; omega) (fun k hk => (hown.lt k hk).1)
          · simp; omega
          · simp only [strLen]; omega

theorem rmethod_any (s : ByteArray) (w : World) (hs : s.size ≤ 1073741824) :
    Calls Try.prog 127 #[.string s] w fun e w' => Below w.heap.size w w' ∧ MethAns s.data.toList w.heap.size e w' := by
  have no : meth s.data.toList = none → (s.size = 0 ∨ ∃ h : 0 < s.size, s[0].toNat ≠ 40) → Calls Try.prog 127 #[.string s] w fun e w' => Below w.heap.size w w' ∧ MethAns s.data.toList w.heap.size e w' :=
    fun h1 h2 => (rmethod_bad s w h2).mono fun e w' ⟨he, hw⟩ => by cases hw; exact ⟨Below.refl _ _, .inr ⟨h1, he⟩⟩
  match h : s.data.toList with
  | [] =>
    rw [h] at no
    exact no rfl (.inl (by rw [size_len, h]; rfl))
  | c :: t =>
    by_cases hc : c = 40
    · subst hc; rw [← h]; exact rmethod_open s w t hs h
    · have h0 : 0 < s.size := by rw [size_len, h]; simp
      have := at_get s 0 h0
      rw [h] at no this
      simp at this
      refine no (by unfold meth; simp only; rw [if_neg hc]) (.inr ⟨h0, ?_⟩)
      rw [← this]
      intro e
      exact hc (u8_of (n := 40) e (by decide))
end Go.Proofs.Ytbmfkbgncjldjaa.P3.D
