/- Texts FYp FOv. -/
import Derived.Test.YtbmfkbgncjldjaaBv30
import Derived.Test.YtbmfkbgncjldjaaBv32
namespace Go.Proofs.Ytbmfkbgncjldjaa
open Go.RowKit

abbrev Ris (l : List Int) : Prop := l.Pairwise (· < ·)
theorem putS_done (n : Int) : ∀ l : List Int, (∀ y ∈ l, n < y) → putS n l true = l
  | [], _ => rfl
  | y :: r, h => by
    rw [putS_cons, Bool.true_or, putS_done n r (fun z hz => h z (List.mem_cons_of_mem _ hz)), if_neg (by simp), if_neg (by have := h y List.mem_cons_self; omega)]
    rfl
theorem putS_mem (n : Int) : ∀ l : List Int, Ris l → (Ris (putS n l false) ∧ ∀ m, m ∈ putS n l false ↔ m = n ∨ m ∈ l)
  | [], _ => by rw [putS_nil]; simp
  | y :: r, h => by
    obtain ⟨h1, h2⟩ := List.pairwise_cons.1 h
    rw [putS_cons]
    by_cases hny : n ≤ y
    · have e : putS n r (false || decide (n ≤ y)) = r := by rw [decide_eq_true hny]; exact putS_done n r (fun z hz => by have := h1 z hz; omega)
      rw [e, if_pos (by simp [hny])]
      by_cases hy : y = n
      · subst hy
        rw [if_pos rfl]
        exact ⟨h, fun m => by simp⟩
      · rw [if_neg hy]
        refine ⟨List.pairwise_cons.2 ⟨fun z hz => ?_, h⟩, fun m => by simp⟩
        simp at hz
        rcases hz with rfl | hz
        · omega
        · have := h1 z hz; omega
    · have e : putS n r (false || decide (n ≤ y)) = putS n r false := by rw [decide_eq_false hny]; rfl
      obtain ⟨i1, i2⟩ := putS_mem n r h2
      rw [e, if_neg (by simp [hny]), if_neg (by omega)]
      refine ⟨List.pairwise_cons.2 ⟨fun z hz => ?_, i1⟩, fun m => ?_⟩
      · rcases (i2 z).1 hz with rfl | hz
        · omega
        · exact h1 z hz
      · simp only [List.nil_append, List.singleton_append, List.mem_cons, i2]
        constructor
        · rintro (h | h | h)
          · exact .inr (.inl h)
          · exact .inl h
          · exact .inr (.inr h)
        · rintro (h | h | h)
          · exact .inr (.inl h)
          · exact .inl h
          · exact .inr (.inr h)
def layS (l : List IN) (d : List Int) (n : Int) : List Int := if 0 ≤ n ∧ n < l.length then putS n d false else d
def rlead1 (l : List IN) : Nat → List IN → List Int → List Int
  | _, [], d => d
  | k, x :: r, d => rlead1 l (k + 1) r (if decide (kd x.op = 6) then layS l (layS l d (findZ l x.a)) ((k : Int) + 1) else if endsB x.op then layS l d ((k : Int) + 1) else d)
def rlead2 (l : List IN) : List HN → List Int → List Int
  | [], d => d
  | x :: r, d => rlead2 l r (layS l (layS l (layS l d (findZ l x.f)) (findZ l x.t)) (findZ l x.a))
def rleadZ (l : List IN) (h : List HN) : List Int := rlead2 l h (rlead1 l 0 l (layS l [] 0))
theorem rlead1_cons (l : List IN) (k : Nat) (x : IN) (r : List IN) (d : List Int) : rlead1 l k (x :: r) d = rlead1 l (k + 1) r (if decide (kd x.op = 6) then layS l (layS l d (findZ l x.a)) ((k : Int) + 1) else if endsB x.op then layS l d ((k : Int) + 1) else d) := rfl
theorem rlead2_cons (l : List IN) (x : HN) (r : List HN) (d : List Int) : rlead2 l (x :: r) d = rlead2 l r (layS l (layS l (layS l d (findZ l x.f)) (findZ l x.t)) (findZ l x.a)) := rfl
structure LdI (l : List IN) (d : List Int) (b : List Bool) : Prop where
  len : b.length = l.length
  ris : Ris d
  pos : ∀ m ∈ d, 0 ≤ m ∧ m < l.length
  iff : ∀ k : Nat, (k : Int) ∈ d ↔ b[k]? = some true
theorem LdI.lay {l : List IN} {d : List Int} {b : List Bool} (h : LdI l d b) (n : Int) : LdI l (layS l d n) (setB b n) := by
  unfold layS setB
  rw [h.len]
  by_cases hn : 0 ≤ n ∧ n < l.length
  · rw [if_pos hn, if_pos hn]
    obtain ⟨i1, i2⟩ := putS_mem n d h.ris
    obtain ⟨k, rfl⟩ := Int.eq_ofNat_of_zero_le hn.1
    have hk : k < b.length := by rw [h.len]; omega
    refine ⟨by rw [List.length_set]; exact h.len, i1, fun m hm => ?_, fun j => ?_⟩
    · rcases (i2 m).1 hm with rfl | hm
      · exact hn
      · exact h.pos m hm
    · rw [i2, Int.toNat_natCast]
      by_cases e : j = k
      · subst e
        rw [List.getElem?_set_self hk]
        simp
      · rw [List.getElem?_set_ne (fun h => e h.symm), ← h.iff j]
        constructor
        · rintro (h | h)
          · omega
          · exact h
        · exact .inr
  · rw [if_neg hn, if_neg hn]
    exact h
theorem setB_neg (b : List Bool) (n : Int) (h : n < 0) : setB b n = b := by unfold setB; rw [if_neg (by omega)]
theorem lead1_is (l : List IN) : ∀ (r : List IN) (k : Nat) (d : List Int) (b : List Bool), LdI l d b → LdI l (rlead1 l k r d) (lead1 l k r b)
  | [], _, _, _, h => h
  | x :: r, k, d, b, h => by
    rw [rlead1_cons, lead1_cons]
    refine lead1_is l r (k + 1) _ _ ?_
    unfold tgtZ
    by_cases h6 : kd x.op = 6
    · rw [decide_eq_true h6, if_pos rfl, if_pos (by simp), if_pos h6]
      exact (h.lay _).lay _
    · rw [decide_eq_false h6, if_neg (by simp), if_neg h6, setB_neg b (-1) (by decide)]
      cases he : endsB x.op
      · simp only [Bool.false_or]
        exact h
      · simp only [Bool.false_or, if_true]
        exact h.lay _
theorem lead2_is (l : List IN) : ∀ (r : List HN) (d : List Int) (b : List Bool), LdI l d b → LdI l (rlead2 l r d) (lead2 l r b)
  | [], _, _, h => h
  | x :: r, d, b, h => by
    rw [rlead2_cons, lead2_cons]
    exact lead2_is l r _ _ (((h.lay _).lay _).lay _)
theorem leadZ_is (l : List IN) (h : List HN) : LdI l (rleadZ l h) (leadZ l h) := by
  refine lead2_is l h _ _ (lead1_is l l 0 _ _ (LdI.lay ⟨by simp, List.Pairwise.nil, fun m hm => by simp at hm, fun k => ?_⟩ 0))
  rw [List.getElem?_replicate]
  split <;> simp
theorem setB_mono {b : List Bool} {n : Int} {k : Nat} (h : b[k]? = some true) : (setB b n)[k]? = some true := by
  unfold setB
  split
  · exact set_mono h
  · exact h
theorem setB_self {b : List Bool} {n : Int} (h : 0 ≤ n) (h2 : n < b.length) : (setB b n)[n.toNat]? = some true := by
  unfold setB
  rw [if_pos ⟨h, h2⟩, List.getElem?_set_self (by omega)]
theorem lead1_mono (l : List IN) : ∀ (r : List IN) (k : Nat) (b : List Bool) (j : Nat), b[j]? = some true → (lead1 l k r b)[j]? = some true
  | [], _, _, _, h => h
  | x :: r, k, b, j, h => by
    rw [lead1_cons]
    refine lead1_mono l r (k + 1) _ j ?_
    split
    · exact setB_mono (setB_mono h)
    · exact setB_mono h
theorem lead2_mono (l : List IN) : ∀ (r : List HN) (b : List Bool) (j : Nat), b[j]? = some true → (lead2 l r b)[j]? = some true
  | [], _, _, h => h
  | x :: r, b, j, h => by rw [lead2_cons]; exact lead2_mono l r _ j (setB_mono (setB_mono (setB_mono h)))
theorem lead1_tgt (l : List IN) (x : IN) : ∀ (r : List IN) (k : Nat) (b : List Bool), b.length = l.length → x ∈ r → 0 ≤ tgtZ l x → (lead1 l k r b)[(tgtZ l x).toNat]? = some true
  | [], _, _, _, h, _ => by simp at h
  | y :: r, k, b, hb, h, h0 => by
    have ht : tgtZ l x < l.length := by
      unfold tgtZ
      split
      · exact (findZ_lt l x.a).2
      · omega
    rw [lead1_cons]
    rcases List.mem_cons.1 h with rfl | h
    · refine lead1_mono l r _ _ _ ?_
      have := setB_self (b := b) h0 (by rw [hb]; exact ht)
      split
      · exact setB_mono this
      · exact this
    · refine lead1_tgt l x r (k + 1) _ ?_ h h0
      split <;> simp only [setB_len, hb]
theorem leadZ_tgt (l : List IN) (h : List HN) (x : IN) (hx : x ∈ l) (h0 : 0 ≤ tgtZ l x) : (leadZ l h)[(tgtZ l x).toNat]? = some true :=
  lead2_mono l h _ _ (lead1_tgt l x l 0 _ (by rw [setB_len]; simp) hx h0)
theorem leadZ_zero (l : List IN) (h : List HN) (h0 : 0 < l.length) : (leadZ l h)[0]? = some true :=
  lead2_mono l h _ _ (lead1_mono l l 0 _ _ (setB_self (n := 0) (by decide) (by simpa using h0)))
def bks (n : Nat) : List Int → List (Nat × Nat)
  | [] => []
  | [p] => [(p.toNat, n)]
  | p :: q :: r => (p.toNat, q.toNat) :: bks n (q :: r)
def bto (n : Nat) (d : List Int) (i : Nat) : Int := (d[i + 1]?).getD (n : Int)
theorem bks_len (n : Nat) : ∀ d : List Int, (bks n d).length = d.length
  | [] => rfl
  | [_] => rfl
  | p :: q :: r => by show (bks n (q :: r)).length + 1 = _; rw [bks_len n (q :: r)]; rfl
theorem bks_get (n : Nat) : ∀ (d : List Int) (i : Nat) (x : Int), d[i]? = some x → (bks n d)[i]? = some (x.toNat, (bto n d i).toNat)
  | [], i, x, h => by simp at h
  | [p], 0, x, h => by simp at h; subst h; simp [bks, bto]
  | [p], i + 1, x, h => by simp at h
  | p :: q :: r, 0, x, h => by simp at h; subst h; simp [bks, bto]
  | p :: q :: r, i + 1, x, h => by
    have := bks_get n (q :: r) i x (by simpa using h)
    simpa [bks, bto] using this
theorem bks_take (n : Nat) (d : List Int) (i : Nat) (x : Int) (h : d[i]? = some x) : (bks n d).take (i + 1) = (bks n d).take i ++ [(x.toNat, (bto n d i).toNat)] := by
  rw [List.take_add_one, bks_get n d i x h]
  rfl
theorem bks_is (l : List IN) (b : List Bool) (hb : b.length = l.length) : ∀ (d : List Int) (p : Nat), Ris ((p : Int) :: d) → (∀ m ∈ ((p : Int) :: d), 0 ≤ m ∧ m < l.length) → (∀ k : Nat, p ≤ k → ((k : Int) ∈ ((p : Int) :: d) ↔ b[k]? = some true)) → Blk b l.length p (bks l.length ((p : Int) :: d))
  | [], p, hr, hp, hi => by
    have := hp p (by simp)
    refine .cons (by omega) (Nat.le_refl _) (fun q h1 h2 => ?_) (.inl rfl) .nil
    have := hi q (by omega)
    have hq : q < b.length := by omega
    rw [List.getElem?_eq_getElem hq] at this ⊢
    cases e : b[q]
    · rfl
    · rw [e] at this
      have := this.2 rfl
      simp at this
      omega
  | q :: r, p, hr, hp, hi => by
    have h1 := hp p (by simp)
    have h2 := hp q (by simp)
    obtain ⟨k, rfl⟩ := Int.eq_ofNat_of_zero_le h2.1
    obtain ⟨hr1, hr2⟩ := List.pairwise_cons.1 hr
    have hpk := hr1 (k : Int) (by simp)
    obtain ⟨hr3, _⟩ := List.pairwise_cons.1 hr2
    refine .cons (by simp; omega) (by simp; omega) (fun j g1 g2 => ?_) (.inr ?_) ?_
    · have := hi j (by omega)
      have hq : j < b.length := by simp at g2; omega
      rw [List.getElem?_eq_getElem hq] at this ⊢
      cases e : b[j]
      · rfl
      · rw [e] at this
        have := this.2 rfl
        simp at this g2
        rcases this with h | h | h
        · omega
        · omega
        · have := hr3 _ h; omega
    · have := hi k (by omega)
      simpa using this
    · have := bks_is l b hb r k hr2 (fun m hm => hp m (List.mem_cons_of_mem _ hm)) (fun j hj => ?_)
      · simpa using this
      · rw [← hi j (by omega)]
        constructor
        · exact List.mem_cons_of_mem _
        · intro h
          rcases List.mem_cons.1 h with h | h
          · omega
          · exact h
theorem bks_lead (l : List IN) (h : List HN) : Blk (leadZ l h) l.length 0 (bks l.length (rleadZ l h)) := by
  have hl := leadZ_is l h
  by_cases h0 : 0 < l.length
  · have hz := (hl.iff 0).2 (leadZ_zero l h h0)
    cases hd : rleadZ l h with
    | nil => rw [hd] at hz; simp at hz
    | cons p r =>
      rw [hd] at hl hz
      have hp : p = ((0 : Nat) : Int) := by
        rcases List.mem_cons.1 hz with h | h
        · exact h.symm
        · have := (List.pairwise_cons.1 hl.ris).1 _ h
          have := hl.pos p (by simp)
          omega
      subst hp
      exact bks_is l _ hl.len r 0 hl.ris hl.pos (fun k _ => hl.iff k)
  · have e : rleadZ l h = [] := by
      cases hd : rleadZ l h with
      | nil => rfl
      | cons p r => have := hl.pos p (by rw [hd]; simp); omega
    rw [e]
    have : l.length = 0 := by omega
    rw [this]
    exact .nil
def fnd (m : Int) : List Int → Nat → List Int
  | [], _ => []
  | y :: r, j => (if y = m then [(j : Int)] else []) ++ fnd m r (j + 1)
theorem fnd_none (m : Int) : ∀ (d : List Int) (j : Nat), (∀ y ∈ d, y ≠ m) → fnd m d j = []
  | [], _, _ => rfl
  | y :: r, j, h => by
    show (if y = m then [(j : Int)] else []) ++ fnd m r (j + 1) = []
    rw [if_neg (h y (by simp)), fnd_none m r (j + 1) (fun z hz => h z (List.mem_cons_of_mem _ hz))]
    rfl
theorem fnd_one (m : Int) : ∀ (d : List Int) (j i : Nat), Ris d → d[i]? = some m → fnd m d j = [((j + i : Nat) : Int)]
  | [], _, _, _, h => by simp at h
  | y :: r, j, 0, hr, h => by
    simp at h
    subst h
    show (if y = y then [(j : Int)] else []) ++ fnd y r (j + 1) = _
    rw [if_pos rfl, fnd_none y r (j + 1) (fun z hz => by have := (List.pairwise_cons.1 hr).1 z hz; omega)]
    rfl
  | y :: r, j, i + 1, hr, h => by
    have h' : r[i]? = some m := by simpa using h
    have := (List.pairwise_cons.1 hr).1 m (List.mem_of_getElem? h')
    show (if y = m then [(j : Int)] else []) ++ fnd m r (j + 1) = _
    rw [if_neg (by omega), fnd_one m r (j + 1) i (List.pairwise_cons.1 hr).2 h']
    simp
    omega
def rnx (d : List Int) (nx : List Int) : List Int := nx.flatMap (fun m => fnd m d 0)
theorem rnx_snoc (d nx : List Int) (m : Int) : rnx d (nx ++ [m]) = rnx d nx ++ fnd m d 0 := by simp [rnx]
theorem Blk.to_lead {d : List Bool} {n p : Nat} {bl : List (Nat × Nat)} (h : Blk d n p bl) : ∀ x ∈ bl, x.1 < x.2 ∧ x.2 ≤ n ∧ (x.2 = n ∨ d[x.2]? = some true) := by
  induction h with
  | nil => intro x hx; simp at hx
  | cons h1 h2 _ h4 _ ih =>
    intro x hx
    rcases List.mem_cons.1 hx with rfl | hx
    · exact ⟨h1, h2, h4⟩
    · exact ih x hx
theorem next_leads (l : List IN) (h : List HN) (t : Nat) (ht : 0 < t) (hn : t ≤ l.length) (hd : t = l.length ∨ (leadZ l h)[t]? = some true) (m : Int) (hm : m ∈ nextZ l ((t : Int) - 1)) : 0 ≤ m ∧ (leadZ l h)[m.toNat]? = some true := by
  obtain ⟨k, rfl⟩ : ∃ k, t = k + 1 := ⟨t - 1, by omega⟩
  have hk : k < l.length := by omega
  rw [show ((k + 1 : Nat) : Int) - 1 = (k : Int) by omega, nextZ_at (List.getElem?_eq_getElem hk)] at hm
  have ht : ∀ q, q = tgtZ l l[k] → ¬ q < 0 → 0 ≤ q ∧ (leadZ l h)[q.toNat]? = some true := fun q e h0 => by subst e; exact ⟨by omega, leadZ_tgt l h _ (List.getElem_mem hk) (by omega)⟩
  unfold nextL at hm
  split at hm
  · rename_i hc
    simp only [Bool.and_eq_true, decide_eq_true_eq] at hc
    have hs : ∀ q, q = (k : Int) + 1 → 0 ≤ q ∧ (leadZ l h)[q.toNat]? = some true := fun q e => by
      subst e
      refine ⟨by omega, ?_⟩
      rcases hd with hd | hd
      · omega
      · rw [show ((k : Int) + 1).toNat = k + 1 by omega]; exact hd
    split at hm
    · exact hs m (by simpa using hm)
    · rename_i h0
      split at hm
      · simp at hm
        rcases hm with hm | hm
        · exact ht m hm (by omega)
        · exact hs m hm
      · split at hm
        · exact hs m (by simpa using hm)
        · simp at hm
          rcases hm with hm | hm
          · exact hs m hm
          · exact ht m hm (by omega)
  · split at hm
    · simp at hm
    · rename_i h0
      exact ht m (by simpa using hm) (by simp at hm; omega)
theorem rnx_is (l : List IN) (h : List HN) (bl : List (Nat × Nat)) (nu : List Int) (hb : Blk (leadZ l h) l.length 0 bl) (hnu : Numb bl nu) (x : Nat × Nat) (hx : x ∈ bl) :
    rnx (rleadZ l h) (nextZ l ((x.2 : Int) - 1)) = (nextZ l ((x.2 : Int) - 1)).map (fun m => (nu[m.toNat]?).getD 0) := by
  have e := hb.unique (bks_lead l h)
  have hl := leadZ_is l h
  obtain ⟨h1, h2, h3⟩ := hb.to_lead x hx
  have H : ∀ m ∈ nextZ l ((x.2 : Int) - 1), fnd m (rleadZ l h) 0 = [(nu[m.toNat]?).getD 0] := by
    intro m hm
    obtain ⟨m0, hmd⟩ := next_leads l h x.2 (by omega) h2 h3 m hm
    obtain ⟨k, rfl⟩ := Int.eq_ofNat_of_zero_le m0
    rw [Int.toNat_natCast] at hmd ⊢
    obtain ⟨i, hi⟩ := List.mem_iff_getElem?.1 ((hl.iff k).2 hmd)
    rw [fnd_one _ _ 0 i hl.ris hi]
    have g := bks_get l.length _ i _ hi
    rw [← e] at g
    have := hnu i _ g
    simp only [Int.toNat_natCast] at this
    rw [this]
    simp
  generalize nextZ l ((x.2 : Int) - 1) = L at H
  unfold rnx
  induction L with
  | nil => rfl
  | cons m r ih =>
    rw [List.flatMap_cons, List.map_cons, H m (by simp), ih (fun z hz => H z (List.mem_cons_of_mem _ hz))]
    rfl
end Go.Proofs.Ytbmfkbgncjldjaa
namespace Go.Proofs.Ytbmfkbgncjldjaa
open Go.RowKit

def ovB (p : Int) (y : HN) : Bool := decide (y.f ≤ p) && decide (p < y.t)
def ovL (p : Int) : List HN → Nat → List Int
  | [], _ => []
  | y :: r, j => (if ovB p y then [(j : Int)] else []) ++ ovL p r (j + 1)
theorem ovL_cons (p : Int) (y : HN) (r : List HN) (j : Nat) : ovL p (y :: r) j = (if ovB p y then [(j : Int)] else []) ++ ovL p r (j + 1) := rfl
theorem ovL_len (p : Int) : ∀ (h : List HN) (j : Nat), (ovL p h j).length ≤ h.length
  | [], _ => Nat.le_refl _
  | y :: r, j => by
    have := ovL_len p r (j + 1)
    rw [ovL_cons, List.length_append]
    have h1 : (if ovB p y then [(j : Int)] else []).length ≤ 1 := by split <;> simp
    simp only [List.length_cons]
    omega
theorem ovL_mem (p : Int) : ∀ (h : List HN) (j : Nat) (m : Int), m ∈ ovL p h j ↔ ∃ (q : Nat) (y : HN), h[q]? = some y ∧ ovB p y = true ∧ m = ((j + q : Nat) : Int)
  | [], j, m => by simp [ovL]
  | y :: r, j, m => by
    rw [ovL_cons, List.mem_append, ovL_mem p r (j + 1) m]
    constructor
    · rintro (h | ⟨q, z, h1, h2, h3⟩)
      · split at h
        · rename_i hb
          simp at h
          exact ⟨0, y, rfl, hb, by simpa using h⟩
        · simp at h
      · exact ⟨q + 1, z, by simpa using h1, h2, by omega⟩
    · rintro ⟨q, z, h1, h2, h3⟩
      cases q with
      | zero =>
        simp at h1
        subst h1
        left
        rw [if_pos h2]
        simpa using h3
      | succ q => exact .inr ⟨q, z, by simpa using h1, h2, by omega⟩
set_option maxRecDepth 8000 in
set_option maxHeartbeats 4000000 in
theorem rover_any (v u : Value) (l : List IN) (h : List HN) (k : Nat) (x : IN) (w : World) (hv : IView w v l) (hu : HView w u h) (hx : l[k]? = some x) (hh : h.length ≤ 1000000000) :
    Calls Try.prog 57 #[v, u, .int .i64 (k : Int)] w fun e w' => ∃ v', e = .returned v' ∧ NOwn w' w.heap.size v' (ovL x.pl h 0) ∧ Below w.heap.size w w' := by
  have HV := hidIt hv
  have HU := hidIt hu
  have hk := (List.getElem?_eq_some_iff.1 hx).1
  have hk' : (k : Int) < (l.length : Int) := by omega
  obtain ⟨ao, cap, rfl, hc, hm, _⟩ := hv
  obtain ⟨ao1, cap1, rfl, hc1, hm1, _⟩ := hu
  unfold maxLen at hm hm1
  have HX := hidIt hx
  clear hx
  go_enter Try.func57, Try.ntmps57
  go_wp2
  go_loopw [7, 8] (fun o i wr => ∃ (j : Nat) (acc : List Int), j ≤ h.length ∧ acc.length ≤ j ∧ i = .int .i64 (j : Int) ∧ NOwn wr w.heap.size o acc ∧ Below w.heap.size w wr ∧ acc ++ ovL x.pl (h.drop j) j = ovL x.pl h 0) (fun _ i _ => h.length - (intOf i).toNat)
  case atStart => exact ⟨0, [], Nat.zero_le _, Nat.le_refl _, rfl, NOwn.nil _ _, Below.refl _ w, rfl⟩
  case round =>
    obtain ⟨j, acc, hj, hacc, rfl, ho, hb, he⟩ := hrel
    have HO := hidIt ho
    have HB := hidIt hb
    have HE := hidIt he
    have hz := hb.size
    obtain ⟨ao2, cap2, rfl⟩ := own_slice ho
    clear ho hb he
    by_cases hlt : j < h.length
    · have hlt' : (j : Int) < (h.length : Int) := by omega
      obtain ⟨y, hy⟩ : ∃ y, h[j]? = some y := ⟨h[j], List.getElem?_eq_getElem hlt⟩
      obtain ⟨g1, off1, rfl, c0, c1, c2, c3⟩ := (HU.out.below HB.out).row hy
      obtain ⟨g, off, rfl, d0, d1, d2, d3⟩ := (HV.out.below HB.out).row HX.out
      rw [drop_at hy, ovL_cons] at HE
      unfold ovB at HE
      clear hy HU HV c2 c3 d1 d2 d3
      by_cases h1 : y.f ≤ x.pl
      · rw [decide_eq_true h1] at HE
        by_cases h2 : x.pl < y.t
        · rw [decide_eq_true h2] at HE
          go_wp2_with fail
          go_quiet (fail)
          have HBq := hidIt (below_drewN HB.out nq)
          have HOq := hidIt (HO.out.drewN nq)
          clear c0 c1 d0 HB HO hz
          generalize wr.drewN nq = W2 at *
          have hz := HBq.out.size
          go_wp2_with (at_builtin; refine wpList_nappend rfl _ _ rfl w.heap.size _ _ _ HOq.out rfl rfl (by omega) HBq.out.size ?_; intro ao3 cap3 w2 ho2 st2; have HB2 := hidIt ((HBq.out.trans ((below_alloc _ _).mono HBq.out.size)).trans (st2.below (Nat.le_trans HBq.out.size (below_alloc _ _).size) (fun k hk => (HOq.out.lt k hk).1))); have HO2 := hidIt ho2; clear ho2 st2)
          exact ⟨⟨j + 1, _, by omega, by simp; omega, by go_num, HO2.out, HB2.out, by have := HE.out; simpa using this⟩, by simp [intOf]; omega⟩
        · rw [decide_eq_false h2] at HE
          go_wp2_with fail
          go_quiet (fail)
          go_wp2
          exact ⟨⟨j + 1, _, by omega, by omega, by go_num, HO.out.drewN nq, below_drewN HB.out nq, by have := HE.out; simpa using this⟩, by simp [intOf]; omega⟩
      · rw [decide_eq_false h1] at HE
        have h1d : decide (y.f ≤ x.pl) = false := decide_eq_false h1
        go_wp2_with fail
        go_quiet (fail)
        go_wp2
        exact ⟨⟨j + 1, _, by omega, by omega, by go_num, HO.out.drewN nq, below_drewN HB.out nq, by have := HE.out; simpa using this⟩, by simp [intOf]; omega⟩
    · have hlt' : ¬ (j : Int) < (h.length : Int) := by omega
      obtain rfl : j = h.length := by omega
      rw [List.drop_length] at HE
      go_wp2
      go_ret
      refine ⟨_, rfl, ?_, HB.out⟩
      have := HE.out
      simp only [ovL, List.append_nil] at this
      rw [← this]
      exact HO.out
structure Sd (l : List IN) (h : List HN) (r : List Bool) : Prop where
  len : r.length = l.length
  fst : r[0]? = some true
  snd : ∀ k : Nat, r[k]? = some true → Rch l h k
structure Pa (l : List IN) (h : List HN) (r0 r : List Bool) (more : Bool) (i : Nat) : Prop where
  sd : Sd l h r
  one : more = true → cntF r < cntF r0
  two : more = false → r = r0
  cls : more = false → ∀ k, k < i → r[k]? = some true → ∀ m, Succ l h k m → r[m]? = some true
theorem Sd.begin (l : List IN) (h : List HN) (h0 : 0 < l.length) : Sd l h ((List.replicate l.length false).set 0 true) := by
  have hf : (List.replicate l.length false)[0]? = some false := by simp [h0]
  refine ⟨by simp, set_self hf, fun k hk => ?_⟩
  rcases Nat.eq_zero_or_pos k with e | e
  · subst e; exact .zero h0
  · rw [List.getElem?_set_ne (by omega), List.getElem?_replicate] at hk
    split at hk <;> simp at hk
theorem Pa.begin {l : List IN} {h : List HN} {r : List Bool} (s : Sd l h r) : Pa l h r r false 0 := ⟨s, fun h => absurd h (by decide), fun _ => rfl, fun _ k hk => absurd hk (Nat.not_lt_zero _)⟩
theorem Pa.done {l : List IN} {h : List HN} {r0 r : List Bool} (p : Pa l h r0 r false l.length) : ReachIs l h r := by
  refine ⟨p.sd.len, fun k hk => ⟨p.sd.snd k, fun hr => ?_⟩⟩
  clear hk
  induction hr with
  | zero h0 => exact p.sd.fst
  | step hr hs ih => exact p.cls rfl _ hr.lt ih _ hs
theorem Pa.skip {l : List IN} {h : List HN} {r0 r : List Bool} {more : Bool} {i : Nat} (p : Pa l h r0 r more i) (hi : r[i]? ≠ some true) : Pa l h r0 r more (i + 1) := by
  refine ⟨p.sd, p.one, p.two, fun hm k hk hr => ?_⟩
  rcases Nat.lt_or_eq_of_le (Nat.le_of_lt_succ hk) with e | e
  · exact p.cls hm k e hr
  · subst e; exact absurd hr hi
structure Pb (l : List IN) (h : List HN) (r0 r : List Bool) (more : Bool) (i : Nat) (T : List Int) (j : Nat) : Prop where
  pa : Pa l h r0 r more i
  dn : more = false → ∀ m ∈ T.take j, r[m.toNat]? = some true
theorem Pb.begin {l : List IN} {h : List HN} {r0 r : List Bool} {more : Bool} {i : Nat} (T : List Int) (p : Pa l h r0 r more i) : Pb l h r0 r more i T 0 := ⟨p, fun _ m hm => by simp at hm⟩
theorem set_same {r : List Bool} {k : Nat} (h : r[k]? = some true) : r.set k true = r := by
  apply List.ext_getElem? 
  intro j
  by_cases e : k = j
  · subst e; rw [List.getElem?_set_self (List.getElem?_eq_some_iff.1 h).1, h]
  · rw [List.getElem?_set_ne e]
theorem Pb.step {l : List IN} {h : List HN} {r0 r : List Bool} {more : Bool} {i j m : Nat} {T : List Int} {b : Bool} (p : Pb l h r0 r more i T j) (hm : T[j]? = some (m : Int)) (hr : Rch l h m) (hb : r[m]? = some b) : Pb l h r0 (r.set m true) (more || !b) i T (j + 1) := by
  cases b with
  | true =>
    rw [set_same hb]
    simp only [Bool.not_true, Bool.or_false]
    refine ⟨p.pa, fun hf q hq => ?_⟩
    rw [List.take_add_one, hm] at hq
    rcases List.mem_append.1 hq with h1 | h1
    · exact p.dn hf q h1
    · simp at h1; subst h1; exact hb
  | false =>
    simp only [Bool.not_false, Bool.or_true]
    have hc := cntF_set hb
    have hle : cntF r ≤ cntF r0 := by
      cases more with
      | true => have := p.pa.one rfl; omega
      | false => rw [p.pa.two rfl]; exact Nat.le_refl _
    refine ⟨⟨⟨by rw [List.length_set]; exact p.pa.sd.len, set_mono p.pa.sd.fst, fun k hk => ?_⟩, fun _ => by omega, fun h => absurd h (by decide), fun h => absurd h (by decide)⟩, fun h => absurd h (by decide)⟩
    by_cases e : k = m
    · subst e; exact hr
    · rw [List.getElem?_set_ne (fun h => e h.symm)] at hk
      exact p.pa.sd.snd k hk
theorem Pb.close {l : List IN} {h : List HN} {r0 r : List Bool} {more : Bool} {i : Nat} {T : List Int} (p : Pb l h r0 r more i T T.length) (hT : ∀ m : Nat, Succ l h i m → (m : Int) ∈ T) : Pa l h r0 r more (i + 1) := by
  refine ⟨p.pa.sd, p.pa.one, p.pa.two, fun hm k hk hr q hq => ?_⟩
  rcases Nat.lt_or_eq_of_le (Nat.le_of_lt_succ hk) with e | e
  · exact p.pa.cls hm k e hr q hq
  · subst e
    have := p.dn hm (q : Int) (by rw [List.take_length]; exact hT q hq)
    simpa using this
structure Tl (l : List IN) (h : List HN) (i : Nat) (ov : List Int) (T : List Int) (j : Nat) : Prop where
  nx : ∀ m ∈ nextZ l (i : Int), m ∈ T
  ok : ∀ m ∈ T, 0 ≤ m ∧ Succ l h i m.toNat
  hd : ∀ (q : Nat) (p : Int) (y : HN), q < j → ov[q]? = some p → h[p.toNat]? = some y → 0 ≤ findZ l y.a → findZ l y.a ∈ T
theorem Tl.begin {l : List IN} {h : List HN} {i : Nat} (ov : List Int) : Tl l h i ov (nextZ l (i : Int)) 0 :=
  ⟨fun _ h => h, fun m hm => by have := (nextZ_range hm).1; exact ⟨this, .inl (by rw [Int.toNat_of_nonneg this]; exact hm)⟩, fun _ _ _ hq => absurd hq (Nat.not_lt_zero _)⟩
theorem Tl.step {l : List IN} {h : List HN} {i j : Nat} {x : IN} {T : List Int} {p : Int} {y : HN} (t : Tl l h i (ovL x.pl h 0) T j) (hx : l[i]? = some x) (hp : (ovL x.pl h 0)[j]? = some p) (hy : h[p.toNat]? = some y) : Tl l h i (ovL x.pl h 0) (if 0 ≤ findZ l y.a then T ++ [findZ l y.a] else T) (j + 1) := by
  obtain ⟨q, z, h1, h2, h3⟩ := (ovL_mem x.pl h 0 p).1 (List.mem_of_getElem? hp)
  have e : p.toNat = q := by omega
  rw [e, h1] at hy
  have hzy : z = y := Option.some.inj hy
  subst hzy
  unfold ovB at h2
  simp only [Bool.and_eq_true, decide_eq_true_eq] at h2
  by_cases h0 : 0 ≤ findZ l z.a
  · rw [if_pos h0]
    refine ⟨fun m hm => List.mem_append.2 (.inl (t.nx m hm)), fun m hm => ?_, fun q' p' y' hq hp' hy' h0' => ?_⟩
    · rcases List.mem_append.1 hm with hm | hm
      · exact t.ok m hm
      · simp at hm
        subst hm
        exact ⟨h0, .inr ⟨x, z, hx, List.mem_of_getElem? h1, h2.1, h2.2, by rw [Int.toNat_of_nonneg h0]⟩⟩
    · rcases Nat.lt_or_eq_of_le (Nat.le_of_lt_succ hq) with hq | hq
      · exact List.mem_append.2 (.inl (t.hd q' p' y' hq hp' hy' h0'))
      · subst hq
        rw [hp] at hp'
        cases hp'
        rw [e, h1] at hy'
        cases hy'
        simp
  · rw [if_neg h0]
    refine ⟨t.nx, t.ok, fun q' p' y' hq hp' hy' h0' => ?_⟩
    rcases Nat.lt_or_eq_of_le (Nat.le_of_lt_succ hq) with hq | hq
    · exact t.hd q' p' y' hq hp' hy' h0'
    · subst hq
      rw [hp] at hp'
      cases hp'
      rw [e, h1] at hy'
      cases hy'
      exact absurd h0' h0
theorem Tl.all {l : List IN} {h : List HN} {i : Nat} {x : IN} {T : List Int} (t : Tl l h i (ovL x.pl h 0) T (ovL x.pl h 0).length) (hx : l[i]? = some x) (m : Nat) (hs : Succ l h i m) : (m : Int) ∈ T := by
  rcases hs with h1 | ⟨i', y, e1, e2, e3, e4, e5⟩
  · exact t.nx _ h1
  · rw [hx] at e1
    cases e1
    obtain ⟨q, hq⟩ := List.mem_iff_getElem?.1 e2
    obtain ⟨n, hn⟩ := List.mem_iff_getElem?.1 ((ovL_mem x.pl h 0 (q : Int)).2 ⟨q, y, hq, by unfold ovB; simp [e3, e4], by simp⟩)
    have := t.hd n (q : Int) y (List.getElem?_eq_some_iff.1 hn).1 hn (by simpa using hq) (by omega)
    rwa [e5] at this
theorem NOwn.apart {w w' : World} {o : Obj} {B : Nat} {v v' u : Value} {l : List Int} (h : NOwn w B u l) (st : Step v (w.alloc o) v' w') (hne : ∀ k, u.ownBlock = some k → v.ownBlock ≠ some k) : NOwn w' B u l ∧ ∀ k, u.ownBlock = some k → v'.ownBlock ≠ some k := by
  have hlt : ∀ k, u.ownBlock = some k → k < w.heap.size := fun k hk => (h.lt k hk).2
  refine ⟨⟨h.1, ?_⟩, fun k hk => ?_⟩
  · rcases h.2 with x | ⟨g, cap, cur, rfl, hB, hg, r⟩
    · exact .inl x
    · refine .inr ⟨g, cap, cur, rfl, hB, ?_, r⟩
      have hgl := (Array.getElem?_eq_some_iff.1 hg).1
      rw [st.grown.block g (Nat.lt_of_lt_of_le hgl (below_alloc w o).size) (fun e => hne g rfl e.symm), (below_alloc w o).block g hgl]
      exact hg
  · rcases st.moved with e | ⟨g, e, hg⟩
    · rw [e]; exact hne k hk
    · rw [e]
      intro e2
      cases e2
      have := hlt k hk
      have := (below_alloc w o).size
      omega
end Go.Proofs.Ytbmfkbgncjldjaa
