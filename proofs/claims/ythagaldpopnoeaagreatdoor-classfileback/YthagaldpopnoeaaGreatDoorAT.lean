/- What was written is read: the plain part. -/
import Derived.Test.YthagaldpopnoeaaGreatDoorYD
import Derived.Test.YthagaldpopnoeaaGreatDoorYF
import Derived.Test.YthagaldpopnoeaaGreatDoorPQ
namespace Go.Proofs.YthagaldpopnoeaaGreatDoor
open Go.RowKit

theorem beVal_cons (c : Int) (bs : List Int) : beVal (c :: bs) = c * 256 ^ bs.length + beVal bs := by
  have key : ∀ (bs : List Int) (m : Int), bs.foldl (fun n c => n * 256 + c) m = m * 256 ^ bs.length + bs.foldl (fun n c => n * 256 + c) 0 := by
    intro bs
    induction bs with
    | nil => intro m; simp
    | cons b bs ih =>
      intro m
      simp only [List.foldl_cons, List.length_cons]
      rw [ih (m * 256 + b), ih (0 * 256 + b)]
      rw [Int.pow_succ, Int.add_mul, Int.zero_mul, Int.zero_add, Int.mul_assoc, Int.mul_comm 256, Int.add_assoc]
  unfold beVal
  rw [List.foldl_cons, key bs (0 * 256 + c)]
  simp
theorem beVal_be (n : Int) : ∀ k, beVal (be n k) = n % 256 ^ k
  | 0 => by simp [be, beVal, Int.emod_one]
  | k + 1 => by
    have ih := beVal_be n k
    show beVal ((n / 2 ^ (8 * k) % 256) :: be n k) = _
    rw [beVal_cons, be_len, ih]
    have e : (2 : Int) ^ (8 * k) = 256 ^ k := by rw [Int.pow_mul]; rfl
    rw [e, Int.pow_succ]
    have hp : (0 : Int) < 256 ^ k := Int.pow_pos (by decide)
    generalize (256 : Int) ^ k = P at *
    have h1 := Int.emod_add_mul_ediv n P
    have h2 := Int.emod_add_mul_ediv (n / P) 256
    have h3 : n = (n / P % 256 * P + n % P) + (P * 256) * (n / P / 256) := by
      have : P * (n / P) = P * (n / P % 256) + P * (256 * (n / P / 256)) := by rw [← Int.mul_add, h2]
      rw [Int.mul_assoc]
      have e2 : n / P % 256 * P = P * (n / P % 256) := Int.mul_comm _ _
      omega
    have hlo : 0 ≤ n % P := Int.emod_nonneg _ (by omega)
    have hhi : n % P < P := Int.emod_lt_of_pos _ hp
    have q0 : 0 ≤ n / P % 256 := Int.emod_nonneg _ (by decide)
    have q1 : n / P % 256 ≤ 255 := by omega
    have r0 : 0 ≤ n / P % 256 * P := Int.mul_nonneg q0 (by omega)
    have r1 : n / P % 256 * P ≤ 255 * P := Int.mul_le_mul_of_nonneg_right q1 (by omega)
    have h4 : (n / P % 256 * P + n % P) % (P * 256) = n / P % 256 * P + n % P := Int.emod_eq_of_lt (by omega) (by omega)
    have h5 : n % (P * 256) = ((n / P % 256 * P + n % P) + (P * 256) * (n / P / 256)) % (P * 256) := congrArg (· % (P * 256)) h3
    rw [h5, Int.add_mul_emod_self_left, h4]

/-- What is taken where it was written. -/
theorem tk_at (A X Y : List Int) : tk (A ++ (X ++ Y)) A.length 0 (X.length : Nat) = (X, A.length + X.length, 0) := by
  unfold tk
  by_cases h0 : X.length = 0
  · have : X = [] := List.length_eq_zero_iff.1 h0
    subst this
    rw [if_pos (by simp)]; simp
  · rw [if_neg (by rintro (h | h); · exact h rfl
                   · omega), if_neg (by simp only [List.length_append]; omega)]
    rw [List.drop_left, Int.toNat_natCast, List.take_left]

/-- Letters that are written as one byte each. -/
def Asc (l : List UInt8) : Prop := ∀ c ∈ l, 1 ≤ c.toNat ∧ c.toNat ≤ 127
theorem Asc.append {a b : List UInt8} (ha : Asc a) (hb : Asc b) : Asc (a ++ b) := fun c hc => (List.mem_append.1 hc).elim (ha c) (hb c)
theorem Asc.cons {x : UInt8} {b : List UInt8} (hx : 1 ≤ x.toNat ∧ x.toNat ≤ 127) (hb : Asc b) : Asc (x :: b) := fun c hc => by
  rcases List.mem_cons.1 hc with rfl | h
  · exact hx
  · exact hb c h
theorem Asc.nil : Asc [] := fun _ h => by cases h
theorem asc_name {l : List UInt8} (h : D.isName l) : Asc l := fun c hc => by
  obtain ⟨j, hj⟩ := List.getElem?_of_mem hc
  have := h.2.2 j c hj
  simp [D.okc, D.isL, D.isD] at this
  omega
theorem asc_plain {l : List UInt8} (h : D.Plain l) : Asc l := by
  rcases h with rfl | ⟨nm, hn, rfl⟩
  · exact Asc.cons (by decide) Asc.nil
  · exact Asc.cons (by decide) ((asc_name hn).append (Asc.cons (by decide) Asc.nil))
theorem asc_fld {l : List UInt8} (h : D.Fld l) : Asc l := by
  rcases h with h | ⟨g, hg, rfl⟩
  · exact asc_plain h
  · exact Asc.cons (by decide) (asc_plain hg)
theorem asc_flat {ps : List (List UInt8)} (h : ∀ p ∈ ps, D.Fld p) : Asc ps.flatten := fun c hc => by
  obtain ⟨p, hp, hc⟩ := List.mem_flatten.1 hc
  exact asc_fld (h p hp) c hc
theorem asc_meth {l : List UInt8} (h : (D.meth l).isSome = true) : Asc l := by
  obtain ⟨⟨ps, r⟩, e⟩ := Option.isSome_iff_exists.1 h
  obtain ⟨rfl, hp, _, hr⟩ := D.meth_inv e
  refine Asc.cons (by decide) ((asc_flat hp).append (Asc.cons (by decide) ?_))
  rcases hr with rfl | hr
  · exact Asc.cons (by decide) Asc.nil
  · exact asc_fld hr
theorem asc_empty {s : ByteArray} (h : emptyB s = true) : Asc (bsB s) := by
  unfold emptyB at h
  rw [Lib.toList_data] at h
  rw [show bsB s = [] from List.isEmpty_iff.1 h]
  exact Asc.nil
theorem asc_class {s : ByteArray} (h : classB s = true) : Asc (bsB s) := by
  unfold classB at h
  rw [Bool.or_eq_true] at h
  rcases h with h | h
  · unfold D.elemZ at h
    split at h
    · rename_i h2; exact asc_fld ((D.fieldB_iff _).1 h2.1)
    · cases h
  · exact asc_name ((D.nameB_iff _).1 h)
theorem asc_right {c : CD} (h : rightB c = true) : Asc (bsB c.cls) ∧ Asc (bsB c.nm) ∧ Asc (bsB c.dsc) := by
  have hk := right_kind h
  unfold rightB at h
  rcases hk with k | k | k | k
  all_goals rw [k] at h
  · simp at h
    exact ⟨asc_empty h.1.1, asc_empty h.1.2, asc_empty h.2⟩
  · simp at h
    exact ⟨asc_class h.1.1.2, asc_empty h.1.2, asc_empty h.2⟩
  · simp [memberB] at h
    exact ⟨asc_name ((D.nameB_iff _).1 h.1.2.1), asc_name ((D.nameB_iff _).1 h.1.2.2), asc_fld ((D.fieldB_iff _).1 h.2)⟩
  · simp [memberB, methodB] at h
    exact ⟨asc_name ((D.nameB_iff _).1 h.1.2.1), asc_name ((D.nameB_iff _).1 h.1.2.2), asc_meth h.2.1⟩

def bnums (l : List UInt8) : List Int := l.map fun c => (c.toNat : Int)
theorem bnums_ok {l : List UInt8} (h : Asc l) : ∀ r ∈ bnums l, RuneOk r := fun r hr => by
  obtain ⟨c, hc, rfl⟩ := List.mem_map.1 hr
  have := h c hc
  exact .inl ⟨by omega, by omega⟩
theorem bnums_m : ∀ {l : List UInt8}, Asc l → mAll (bnums l) = bnums l
  | [], _ => rfl
  | c :: l, h => by
    have hc := h c (by simp)
    have ih := bnums_m (l := l) (fun x hx => h x (by simp [hx]))
    show mAll ((c.toNat : Int) :: bnums l) = (c.toNat : Int) :: bnums l
    rw [mAll_cons, ih, mcode1 (by omega)]
    rfl
theorem bnums_u : ∀ {l : List UInt8}, Asc l → uAll (bnums l) = bnums l
  | [], _ => rfl
  | c :: l, h => by
    have hc := h c (by simp)
    have ih := bnums_u (l := l) (fun x hx => h x (by simp [hx]))
    show uAll ((c.toNat : Int) :: bnums l) = (c.toNat : Int) :: bnums l
    rw [uAll_cons, ih, Lib.encodeRuneZ_one (by omega) (by omega)]
    rfl
theorem bnums_str (s : ByteArray) : strOfNums (bnums (bsB s)) = s := by
  apply ByteArray.ext
  apply Array.ext'
  rw [strOfNums_data]
  unfold bnums bsB
  rw [List.map_map]
  conv => rhs; rw [← List.map_id s.data.toList]
  apply List.map_congr_left
  intro c _
  simp
/-- A text of such letters is read where it was written. -/
theorem rtext_asc (A Y : List Int) (s : ByteArray) (h : Asc (bsB s)) (hs : s.size ≤ 256) : rtext (A ++ (wtextZ s ++ Y)) A.length 0 = (s, A.length + (wtextZ s).length, 0) := by
  have hk := bnums_ok h
  have hu := bnums_u h
  have hm := bnums_m h
  have hstr := bnums_str s
  have hl : (bnums (bsB s)).length = s.size := by rw [D.size_len]; unfold bnums; rw [List.length_map]
  have hd := decL_mAll _ hk
  have he := encZ_uAll _ hk
  have hv := valid_uAll _ hk
  rw [hu, hm] at hd
  rw [hu, hm, hstr] at he
  rw [hu, hstr] at hv
  have e : wtextZ s = be ((bnums (bsB s)).length : Nat) 2 ++ bnums (bsB s) := by
    unfold wtextZ
    rw [he, if_pos ⟨hv, by omega⟩]
  rw [e]
  generalize hM : bnums (bsB s) = M at *
  have h1 : tk (A ++ ((be (M.length : Nat) 2 ++ M) ++ Y)) A.length 0 2 = (be (M.length : Nat) 2, A.length + 2, 0) := by
    have := tk_at A (be (M.length : Nat) 2) (M ++ Y)
    rw [be_len, ← List.append_assoc (be _ 2)] at this
    exact this
  have hv : beVal (be (M.length : Nat) 2) = (M.length : Nat) := by
    rw [beVal_be, show (256 : Int) ^ 2 = 65536 by decide]; omega
  have h2 : tk (A ++ ((be (M.length : Nat) 2 ++ M) ++ Y)) (A.length + 2) (if 256 < beVal (be (M.length : Nat) 2) then fl 0 3 else 0) (beVal (be (M.length : Nat) 2)) = (M, A.length + 2 + M.length, 0) := by
    rw [hv, if_neg (by omega)]
    have := tk_at (A ++ be (M.length : Nat) 2) M Y
    rw [List.length_append, be_len] at this
    rw [show A ++ ((be (M.length : Nat) 2 ++ M) ++ Y) = (A ++ be (M.length : Nat) 2) ++ (M ++ Y) by simp]
    exact this
  rw [rtext_some h1 h2 hd, hstr, List.length_append, be_len]
  rw [show A.length + 2 + M.length = A.length + (2 + M.length) by omega]
  rfl

theorem rT_asc (A Y : List Int) : ∀ (ts : List ByteArray), (∀ s ∈ ts, Asc (bsB s) ∧ s.size ≤ 256) → ∀ (k : Nat), k ≤ ts.length → rT (A ++ (ts.flatMap wtextZ ++ Y)) k A.length 0 = (ts.take k, A.length + ((ts.take k).flatMap wtextZ).length, 0)
  | ts, h, 0, _ => by simp [rT]
  | ts, h, k + 1, hk => by
    have ih := rT_asc A Y ts h k (by omega)
    have hs := h (ts[k]'(by omega)) (List.getElem_mem _)
    have e : A ++ (ts.flatMap wtextZ ++ Y) = (A ++ (ts.take k).flatMap wtextZ) ++ (wtextZ (ts[k]'(by omega)) ++ ((ts.drop (k + 1)).flatMap wtextZ ++ Y)) := by
      have e0 : ts = ts.take k ++ (ts[k]'(by omega) :: ts.drop (k + 1)) := by rw [← List.drop_eq_getElem_cons (by omega : k < ts.length), List.take_append_drop]
      have e1 := congrArg (fun t => A ++ (t.flatMap wtextZ ++ Y)) e0
      rw [e1]
      simp only [List.flatMap_append, List.flatMap_cons, List.append_assoc]
    have r := rtext_asc (A ++ (ts.take k).flatMap wtextZ) ((ts.drop (k + 1)).flatMap wtextZ ++ Y) _ hs.1 hs.2
    rw [← e, List.length_append] at r
    unfold rT
    rw [ih]
    simp only
    rw [r, List.take_succ_eq_append_getElem (by omega : k < ts.length)]
    simp only [List.flatMap_append, List.length_append, List.flatMap_cons, List.flatMap_nil, List.append_nil]
    rw [show A.length + ((ts.take k).flatMap wtextZ).length + (wtextZ (ts[k]'(by omega))).length = A.length + (((ts.take k).flatMap wtextZ).length + (wtextZ (ts[k]'(by omega))).length) by omega]

theorem tk_is (A X Y : List Int) (n : Nat) (h : X.length = n) : tk (A ++ (X ++ Y)) A.length 0 (n : Int) = (X, A.length + n, 0) := by subst h; exact tk_at A X Y
theorem kind_byte {c : CD} (h : rightB c = true) : beVal (be c.kind 1) = c.kind := by
  have hk := right_kind h
  rw [beVal_be, show (256 : Int) ^ 1 = 256 by decide]; omega
theorem empty_eq {s : ByteArray} (h : emptyB s = true) : s = eS := by
  unfold emptyB at h
  rw [Lib.toList_data] at h
  apply ByteArray.ext
  apply Array.ext'
  exact List.isEmpty_iff.1 h
theorem mk_right {c : CD} (h : rightB c = true) : mkC c.kind (if textsN c.kind = 0 then c.n else 0) (([c.cls, c.nm, c.dsc] : List ByteArray).take (textsN c.kind)) = c := by
  have hk := right_kind h
  obtain ⟨kind, n, cls, nm, dsc⟩ := c
  unfold rightB at h
  simp only at hk h ⊢
  rcases hk with rfl | rfl | rfl | rfl
  · simp at h
    rw [empty_eq h.1.1, empty_eq h.1.2, empty_eq h.2]
    rfl
  · simp at h
    rw [empty_eq h.1.2, empty_eq h.2, h.1.1.1]
    rfl
  · simp at h
    rw [h.1.1]
    rfl
  · simp at h
    rw [h.1.1]
    rfl
/-- An entry is read where it was written. -/
theorem entry_at (A Y : List Int) (c : CD) (hr : rightB c = true) (hok : c.Ok) : rdC (A ++ (entZ c ++ Y)) A.length 0 = c ∧ rdE (A ++ (entZ c ++ Y)) A.length 0 = (A.length + (entZ c).length, 0) := by
  have hk := right_kind hr
  have ha := asc_right hr
  have hsz := right_small hr
  have hkb := kind_byte hr
  have hz : (if textsN c.kind = 0 then be c.n 4 else [] : List Int).length = if textsN c.kind = 0 then 4 else 0 := by split <;> simp [be_len]
  have e : A ++ (entZ c ++ Y) = A ++ (be c.kind 1 ++ ((if textsN c.kind = 0 then be c.n 4 else []) ++ (entT c ++ Y))) := by simp [entZ]
  have t1 : tk (A ++ (entZ c ++ Y)) A.length 0 1 = (be c.kind 1, A.length + 1, 0) := by
    rw [e]; exact tk_is A (be c.kind 1) _ 1 (be_len _ _)
  have hB : textsB c.kind = true := by simp [textsB]; omega
  have hN : rdN (A ++ (entZ c ++ Y)) A.length 0 = (if textsN c.kind = 0 then c.n else 0, A.length + 1 + (if textsN c.kind = 0 then 4 else 0), 0) := by
    unfold rdN
    rw [t1]
    simp only
    rw [hkb]
    split
    · rename_i h0
      have t4 : tk (A ++ (entZ c ++ Y)) (A.length + 1) 0 4 = (be c.n 4, A.length + 1 + 4, 0) := by
        rw [e, if_pos h0]
        have := tk_is (A ++ be c.kind 1) (be c.n 4) (entT c ++ Y) 4 (be_len _ _)
        rw [List.length_append, be_len, List.append_assoc] at this
        exact this
      rw [t4]
      simp only
      rw [beVal_be, show (256 : Int) ^ 4 = 4294967296 by decide, IntKind.wrap_i32]
      have h1 := hok.nlo
      have h2 := hok.nhi
      congr 1
      omega
    · rfl
  have hT : rdT (A ++ (entZ c ++ Y)) A.length 0 = (([c.cls, c.nm, c.dsc] : List ByteArray).take (textsN c.kind), A.length + (entZ c).length, 0) := by
    unfold rdT
    rw [hN, t1]
    simp only
    rw [hkb]
    have hall : ∀ s ∈ ([c.cls, c.nm, c.dsc] : List ByteArray).take (textsN c.kind), Asc (bsB s) ∧ s.size ≤ 256 := by
      intro s hs
      have hs := List.mem_of_mem_take hs
      simp at hs
      rcases hs with rfl | rfl | rfl
      · exact ⟨ha.1, by omega⟩
      · exact ⟨ha.2.1, by omega⟩
      · exact ⟨ha.2.2, by omega⟩
    have hl : textsN c.kind = (([c.cls, c.nm, c.dsc] : List ByteArray).take (textsN c.kind)).length := by
      simp; rcases hk with k | k | k | k <;> simp [k, textsN]
    have r := rT_asc (A ++ (be c.kind 1 ++ (if textsN c.kind = 0 then be c.n 4 else []))) Y _ hall (textsN c.kind) (by omega)
    have eT : (([c.cls, c.nm, c.dsc] : List ByteArray).take (textsN c.kind)).flatMap wtextZ = entT c := rfl
    rw [eT] at r
    rw [e]
    rw [show (A ++ (be c.kind 1 ++ ((if textsN c.kind = 0 then be c.n 4 else []) ++ (entT c ++ Y)))) = (A ++ (be c.kind 1 ++ (if textsN c.kind = 0 then be c.n 4 else []))) ++ (entT c ++ Y) by simp]
    have hAl : (A ++ (be c.kind 1 ++ (if textsN c.kind = 0 then be c.n 4 else []))).length = A.length + 1 + (if textsN c.kind = 0 then 4 else 0) := by
      rw [List.length_append, List.length_append, hz, be_len]; omega
    rw [hAl] at r
    rw [r, List.take_take, Nat.min_self, eT]
    unfold entZ
    rw [List.length_append, List.length_append, hz, be_len]
    congr 2
    omega
  have hC : rdC (A ++ (entZ c ++ Y)) A.length 0 = c := by
    unfold rdC
    rw [t1, hN, hT]
    simp only
    rw [hkb, if_pos hB]
    exact mk_right hr
  refine ⟨hC, ?_⟩
  unfold rdE
  rw [t1, hT, hC]
  simp only
  rw [hkb, if_pos hB, if_pos hr]

theorem rdL_at (Y : List Int) : ∀ (l acc : List CD) (A : List Int), (∀ c ∈ l, rightB c = true ∧ c.Ok) → rdL (A ++ (l.flatMap entZ ++ Y)) l.length acc A.length 0 = (acc ++ l, A.length + (l.flatMap entZ).length, 0)
  | [], acc, A, _ => by simp [rdL]
  | c :: l, acc, A, h => by
    have hc := h c (by simp)
    have ih := rdL_at Y l (acc ++ [c]) (A ++ entZ c) (fun x hx => h x (by simp [hx]))
    have e : A ++ ((c :: l).flatMap entZ ++ Y) = A ++ (entZ c ++ (l.flatMap entZ ++ Y)) := by simp
    have ent := entry_at A (l.flatMap entZ ++ Y) c hc.1 hc.2
    rw [e]
    show rdL _ (l.length + 1) _ _ _ = _
    unfold rdL
    rw [if_pos rfl, ent.1, ent.2]
    simp only
    rw [← List.append_assoc, ← List.length_append, ih]
    simp [Nat.add_assoc]
/-- A pool is read where it was written. -/
theorem rdP_at (l : List CD) (Y : List Int) (h : ∀ c ∈ l, rightB c = true ∧ c.Ok) (hl : l.length ≤ 256) : rdP (poolZ l ++ Y) 0 0 = (l, (poolZ l).length, 0) ∧ rdO (poolZ l ++ Y) 0 0 = l := by
  have t2 : tk (poolZ l ++ Y) 0 0 2 = (be (l.length : Nat) 2, 2, 0) := by
    have := tk_is [] (be (l.length : Nat) 2) (l.flatMap entZ ++ Y) 2 (be_len _ _)
    simp only [List.nil_append, List.length_nil, Nat.zero_add] at this
    unfold poolZ
    rw [List.append_assoc]
    exact this
  have hv : beVal (be (l.length : Nat) 2) = (l.length : Nat) := by
    rw [beVal_be, show (256 : Int) ^ 2 = 65536 by decide]; omega
  have hP : rdP (poolZ l ++ Y) 0 0 = (l, (poolZ l).length, 0) := by
    unfold rdP rdY
    rw [t2]
    simp only
    rw [hv, if_neg (by omega), Int.toNat_natCast]
    have := rdL_at Y l [] (be (l.length : Nat) 2) h
    rw [be_len] at this
    unfold poolZ
    rw [List.append_assoc, this, List.length_append, be_len]
    simp
  refine ⟨hP, ?_⟩
  unfold rdO
  rw [hP]
  rfl
end Go.Proofs.YthagaldpopnoeaaGreatDoor
