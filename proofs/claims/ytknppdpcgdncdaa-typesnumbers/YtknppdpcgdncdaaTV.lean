/- Types: nearest, Join: walked. -/
import Derived.Test.YtknppdpcgdncdaaTU
namespace Go.Proofs.Ytknppdpcgdncdaa.T
open Go.RowKit Q Q.D K

theorem nm_cells {w : World} {B : Nat} {v : Value} {l : List ByteArray} (h : w.ownsRow B 9 1 v l.length (l.map Value.string)) : ∃ ao cap, v = .slice ao l.length cap ∧ ∀ (j : Nat) x, l[j]? = some x → ∃ g, ao = some ⟨g, 0, none⟩ ∧ g < w.heap.size ∧ w.cell? ⟨g, j, none⟩ = some (.string x) := by
  by_cases h0 : l.length = 0
  · rcases h.2 with ⟨rfl, _⟩ | ⟨g, cap, cur, rfl, _⟩
    · exact ⟨none, 0, by rw [h0], fun j x hj => by have := (List.getElem?_eq_some_iff.1 hj).1; omega⟩
    · exact ⟨_, cap, rfl, fun j x hj => by have := (List.getElem?_eq_some_iff.1 hj).1; omega⟩
  · obtain ⟨g, cap, rfl⟩ := own_form h (by omega)
    refine ⟨_, cap, rfl, fun j x hj => ⟨g, rfl, (h.lt g rfl).2, ?_⟩⟩
    have hlt := (List.getElem?_eq_some_iff.1 hj).1
    rw [h.cellAt j (by omega), List.getElem?_map, hj]
    rfl
theorem find_none {α : Type} {p : α → Bool} : ∀ {l : List α}, (∀ (j : Nat) x, l[j]? = some x → p x = false) → l.find? p = none
  | [], _ => rfl
  | y :: l, h => by
    rw [List.find?_cons_of_neg (by rw [h 0 y rfl]; simp)]
    exact find_none (fun j x hj => h (j + 1) x hj)
theorem find_at {α : Type} {p : α → Bool} : ∀ {l : List α} (i : Nat) (y : α), l[i]? = some y → p y = true → (∀ (j : Nat) x, j < i → l[j]? = some x → p x = false) → l.find? p = some y
  | [], i, y, h, _, _ => by simp at h
  | z :: l, 0, y, h, hp, _ => by simp at h; subst h; exact List.find?_cons_of_pos hp
  | z :: l, i + 1, y, h, hp, hn => by
    rw [List.find?_cons_of_neg (by rw [hn 0 z (by omega) rfl]; simp)]
    exact find_at i y (by simpa using h) hp (fun j x hj hx => hn (j + 1) x (by omega) hx)
/-- The first of these names that b is below. -/
def nearL (R : List KD) (b : ByteArray) (l : List ByteArray) : ByteArray := match l.find? (fun s => ksub R b s) with | some s => s | none => objectN
theorem near_l (R : List KD) (a b : ByteArray) : nearK R a b = nearL R b ((klin R a).map KD.nm) := by
  unfold nearK nearL
  rw [List.find?_map]
  cases h : (klin R a).find? (fun k => ksub R b k.nm) with
  | none => rw [show List.find? ((fun s => ksub R b s) ∘ KD.nm) (klin R a) = none from h]; rfl
  | some k => rw [show List.find? ((fun s => ksub R b s) ∘ KD.nm) (klin R a) = some k from h]; rfl
theorem klin_len : ∀ (R : List KD) (s : ByteArray), (klin R s).length ≤ R.length
  | [], _ => by simp [klin]
  | x :: R, s => by
    unfold klin
    split
    · have := klin_len R x.sup
      simp only [List.length_cons]; omega
    · have := klin_len R s
      simp only [List.length_cons]; omega
theorem objClass : str (classZ (⟨#[76, 79, 98, 106, 101, 99, 116, 59]⟩ : ByteArray).data.toList) = objectN := by kernel_rfl
set_option maxRecDepth 8000 in
set_option maxHeartbeats 4000000 in
theorem near_t (w : World) (pk : Nat) (R : List Mem) (mb : Nat) (ao : Option Addr) (c : Nat) (h : KinV w pk R mb ao c) (hR : R.length ≤ 1000000) (a b : ByteArray) :
    Calls Try.prog 24 #[.pointer (some ⟨pk, 0, none⟩), .string a, .string b] w fun e w' => e = .returned (.string (nearK (R.map Mem.k) a b)) ∧ Below w.heap.size w w' := by
  rw [near_l]
  have HC := D.hidIt (fun W => class_any ⟨#[76, 79, 98, 106, 101, 99, 116, 59]⟩ W (by decide))
  rw [objClass] at HC
  have HL := D.hidIt (kline_any w pk R mb ao c h hR a)
  have hLE : nmCells (lin R a) = ((klin (R.map Mem.k) a).map KD.nm).map Value.string := by rw [← lin_k]; simp [nmCells]
  have hLN : (lin R a).length = ((klin (R.map Mem.k) a).map KD.nm).length := by rw [← lin_k]; simp
  have hLL : ((klin (R.map Mem.k) a).map KD.nm).length ≤ 1000000 := by have := klin_len (R.map Mem.k) a; simp at this ⊢; omega
  rw [hLE, hLN] at HL
  clear hLE hLN
  have HS := D.hidIt (fun W (b' : Below w.heap.size w W) s => sub_any W pk R mb ao c (h.below b') b s)
  have HK : Hid (∀ s, subB R b s = ksub (R.map Mem.k) b s) := fun s => subB_k' R b s
  generalize (klin (R.map Mem.k) a).map KD.nm = L at *
  go_enter Try.func24, Try.ntmps24
  go_wp2_with fail
  refine HL.out.mono ?_
  rintro e w1 ⟨v1, rfl, ho1, b1⟩
  obtain ⟨ao1, cap1, rfl, hc1⟩ := nm_cells ho1
  have HC1 := D.hidIt hc1
  clear hc1 ho1 HL
  go_wp2_with fail
  go_loopw [13] (fun iv wr => ∃ i : Nat, iv = .int .i64 (i : Int) ∧ i ≤ L.length ∧ Below w1.heap.size w1 wr ∧ ∀ (j : Nat) x, j < i → L[j]? = some x → ksub (R.map Mem.k) b x = false) (fun iv _ => L.length - (intOf iv).toNat)
  case atStart => exact ⟨0, rfl, Nat.zero_le _, Below.refl _ _, fun j x hj => by omega⟩
  case round =>
    obtain ⟨i, rfl, hi, B, hN⟩ := hrel
    have HN := D.hidIt hN
    clear hN
    by_cases hlt : i < L.length
    · have hlt' : (i : Int) < (L.length : Int) := by omega
      obtain ⟨x, hx⟩ : ∃ x, L[i]? = some x := ⟨_, List.getElem?_eq_getElem hlt⟩
      obtain ⟨g, rfl, hg, hcell⟩ := HC1.out i x hx
      have hcell' : wr.cell? ⟨g, i, none⟩ = some (.string x) := (B.cell (p := ⟨g, i, none⟩) hg).trans hcell
      have HX := D.hidIt hx
      have S1 := D.hidIt (HS.out wr (next b1 B) x)
      rw [HK.out] at S1
      clear hx hcell
      cases hk : ksub (R.map Mem.k) b x
      · rw [hk] at S1
        go_wp2_with fail
        refine S1.out.mono ?_
        rintro e w2 ⟨rfl, b2⟩
        go_wp2_with fail
        go_roundw
        case rel => exact ⟨i + 1, by go_num, by omega, next B b2, fun j y hj hy => by
          by_cases hji : j < i
          · exact HN.out j y hji hy
          · obtain rfl : j = i := by omega
            rw [HX.out] at hy
            cases hy
            exact hk⟩
        case measure => simp [intOf]; omega
      · rw [hk] at S1
        go_wp2_with fail
        refine S1.out.mono ?_
        rintro e w2 ⟨rfl, b2⟩
        go_wp2_with fail
        go_ret
        unfold nearL
        rw [find_at i x HX.out hk (fun j y hj hy => HN.out j y hj hy)]
        exact ⟨rfl, next b1 (next B b2)⟩
    · have hlt' : ¬ (i : Int) < (L.length : Int) := by omega
      go_wp2_with (go_at_call 41; refine (HC.out _).mono ?_; rintro e w' ⟨rfl, hww⟩; cases hww)
      go_ret
      unfold nearL
      rw [find_none (fun j x hj => HN.out j x (by have := (List.getElem?_eq_some_iff.1 hj).1; omega) hj)]
      exact ⟨rfl, next b1 B⟩
theorem slot_len {s : ByteArray} (h : slotK s = true) : s.size ≤ 67 := by
  rw [size_len]
  unfold slotK at h
  rcases Bool.or_eq_true_iff.1 h with h | h
  · rw [show s.data.toList = [63] from eq_of_beq h]; simp
  · rcases Bool.or_eq_true_iff.1 h with h | h
    · rw [show s.data.toList = [48] from eq_of_beq h]; simp
    · exact fld_len ((fieldB_iff _).1 h)
theorem klin_mem : ∀ {R : List KD} {s : ByteArray} {k : KD}, k ∈ klin R s → k ∈ R
  | [], _, _, h => by simp [klin] at h
  | x :: R, s, m, h => by
    unfold klin at h
    split at h
    · rcases List.mem_cons.1 h with rfl | h
      · simp
      · simp [klin_mem h]
    · simp [klin_mem h]
theorem near_size {R : List KD} (hn : ∀ k ∈ R, k.nm.size ≤ 1000000) (a b : ByteArray) : (nearK R a b).size ≤ 1000000 := by
  unfold nearK
  split
  · rename_i k hk
    exact hn k (klin_mem (List.mem_of_find?_eq_some hk))
  · decide
theorem join_size {R : List KD} (hn : ∀ k ∈ R, k.nm.size ≤ 1000000) : ∀ (n : Nat) (a b : ByteArray), (joinK R n a b).size ≤ 2000000 + a.size + b.size + n
  | 0, a, b => by unfold joinK; have : (⟨#[]⟩ : ByteArray).size = 0 := rfl; omega
  | n + 1, a, b => by
    unfold joinK
    have h1 : (⟨#[63]⟩ : ByteArray).size = 1 := rfl
    have h2 : (str objL).size = 8 := rfl
    have ih := join_size hn n (eS a) (eS b)
    have e1 := eS_size a
    have e2 := eS_size b
    repeat' split
    all_goals first
      | omega
      | skip
    · unfold refS
      rw [str_size]
      have := near_size hn (cS a) (cS b)
      rw [size_len] at this
      have h3 : (bsB (nearK R (cS a) (cS b))).length ≤ 1000000 := this
      simp only [List.length_cons, List.length_append, List.length_nil]
      omega
    · rw [ByteArray.size_append, show (⟨#[91]⟩ : ByteArray).size = 1 from rfl]
      omega
def joinIf (R : List KD) (a b z : ByteArray) : ByteArray := if fitsK R 2 b a then a else if fitsK R 2 a b then b else if bothK a b [76] then refS (nearK R (cS a) (cS b)) else if bothK a b [91, 76] then ⟨#[91]⟩ ++ z else if isRefK a && isRefK b then str objL else ⟨#[63]⟩
set_option maxRecDepth 8000 in
set_option maxHeartbeats 4000000 in
theorem join_no (w : World) (pk : Nat) (R : List Mem) (mb : Nat) (ao : Option Addr) (c : Nat) (h : KinV w pk R mb ao c) (a b : ByteArray) (ha : a.size ≤ 9223372036854775000) (hb : b.size ≤ 9223372036854775000) (hk : (knownK (R.map Mem.k) a && knownK (R.map Mem.k) b) = false) :
    Calls Try.prog 8 #[.pointer (some ⟨pk, 0, none⟩), .string a, .string b] w fun e w' => e = .returned (.string ⟨#[63]⟩) ∧ Below w.heap.size w w' := by
  have C1 := D.hidIt (known_t w pk R mb ao c h a ha)
  cases ka : knownK (R.map Mem.k) a
  · rw [ka] at C1
    go_enter Try.func8, Try.ntmps8
    go_wp2_with fail
    refine C1.out.mono ?_; rintro e w' ⟨rfl, b1⟩
    go_wp2_with fail
    go_ret
    exact ⟨rfl, b1⟩
  · rw [ka] at C1 hk
    have kb : knownK (R.map Mem.k) b = false := by simpa using hk
    go_enter Try.func8, Try.ntmps8
    go_wp2_with fail
    refine C1.out.mono ?_; rintro e w1 ⟨rfl, b1⟩
    have C2 := D.hidIt (known_t w1 pk R mb ao c (h.below b1) b hb)
    rw [kb] at C2
    go_wp2_with fail
    refine C2.out.mono ?_; rintro e w2 ⟨rfl, b2⟩
    go_wp2_with fail
    go_ret
    exact ⟨rfl, next b1 b2⟩
set_option maxRecDepth 8000 in
set_option maxHeartbeats 4000000 in
theorem join_gen (w : World) (pk : Nat) (R : List Mem) (mb : Nat) (ao : Option Addr) (c : Nat) (h : KinV w pk R mb ao c) (hR : R.length ≤ 1000000) (hn : ∀ k ∈ R.map Mem.k, k.nm.size ≤ 1000000) (a b : ByteArray) (ka : knownK (R.map Mem.k) a = true) (kb : knownK (R.map Mem.k) b = true) (z : ByteArray) (hzs : z.size ≤ 4000000)
    (hz : bothK a b [91, 76] = true → ∀ W, Below w.heap.size w W → Calls Try.prog 8 #[.pointer (some ⟨pk, 0, none⟩), .string (eS a), .string (eS b)] W fun e w' => e = .returned (.string z) ∧ Below W.heap.size W w') :
    Calls Try.prog 8 #[.pointer (some ⟨pk, 0, none⟩), .string a, .string b] w fun e w' => e = .returned (.string (joinIf (R.map Mem.k) a b z)) ∧ Below w.heap.size w w' := by
  have sa := known_slot ka
  have sb := known_slot kb
  have la := slot_len sa
  have lb := slot_len sb
  have HV := D.hidIt h
  have C1 := D.hidIt (known_t w pk R mb ao c h a (by omega))
  have CK := D.hidIt (fun W (b' : Below w.heap.size w W) => known_t W pk R mb ao c (h.below b') b (by omega))
  have CF := D.hidIt (fun W (b' : Below w.heap.size w W) => fits_t W pk R mb ao c (h.below b') b a (by omega) (by omega) sb)
  have CG := D.hidIt (fun W (b' : Below w.heap.size w W) => fits_t W pk R mb ao c (h.below b') a b (by omega) (by omega) sa)
  have CB := D.hidIt (fun W => both_t a b ⟨#[76]⟩ W)
  have CC := D.hidIt (fun W => both_t a b ⟨#[91, 76]⟩ W)
  have CA := D.hidIt (fun W => class_t a W (by omega))
  have CD' := D.hidIt (fun W => class_t b W (by omega))
  have CN := D.hidIt (fun W (b' : Below w.heap.size w W) => near_t W pk R mb ao c (h.below b') hR (cS a) (cS b))
  have CE := D.hidIt (fun W => elem_t a W (by omega))
  have CH := D.hidIt (fun W => elem_t b W (by omega))
  have CI := D.hidIt (fun W => isRef_t a W (by omega))
  have CJ := D.hidIt (fun W => isRef_t b W (by omega))
  have CR := D.hidIt (fun W => ref_any (nearK (R.map Mem.k) (cS a) (cS b)) W (by have := near_size hn (cS a) (cS b); omega))
  have CZ := D.hidIt hz
  change Hid (∀ W, Calls _ _ _ W fun e w' => e = .returned (.bool (bothK a b [76])) ∧ w' = W) at CB
  change Hid (∀ W, Calls _ _ _ W fun e w' => e = .returned (.bool (bothK a b [91, 76])) ∧ w' = W) at CC
  change Hid (∀ W, Calls _ _ _ W fun e w' => e = .returned (.string (refS (nearK (R.map Mem.k) (cS a) (cS b)))) ∧ w' = W) at CR
  rw [ka] at C1
  rw [kb] at CK
  unfold joinIf
  have hzs' : (z.size : Int) ≤ 4000000 := by omega
  clear ka kb sa sb la lb h hz hn
  generalize fitsK (R.map Mem.k) 2 b a = x1 at *
  generalize fitsK (R.map Mem.k) 2 a b = x2 at *
  generalize bothK a b [76] = x3 at *
  generalize bothK a b [91, 76] = x4 at *
  generalize isRefK a = x5 at *
  generalize isRefK b = x6 at *
  generalize refS (nearK (R.map Mem.k) (cS a) (cS b)) = rn at *
  generalize nearK (R.map Mem.k) (cS a) (cS b) = nn at *
  generalize cS a = ca at *
  generalize cS b = cb at *
  generalize eS a = ea at *
  generalize eS b = eb at *
  go_enter Try.func8, Try.ntmps8
  go_wp2_with fail
  refine C1.out.mono ?_; rintro e w1 ⟨rfl, b1⟩
  go_wp2_with fail
  refine (CK.out w1 b1).mono ?_; rintro e w2 ⟨rfl, b2⟩
  have B2 := next b1 b2
  clear C1 CK b1 b2
  go_wp2_with fail
  refine (CF.out w2 B2).mono ?_; rintro e w3 ⟨rfl, b3⟩
  cases x1
  case' true =>
    go_wp2_with fail
    go_ret
    exact ⟨rfl, next B2 b3⟩
  have B3 := next B2 b3
  clear CF B2 b3
  go_wp2_with fail
  refine (CG.out w3 B3).mono ?_; rintro e w4 ⟨rfl, b4⟩
  cases x2
  case' true =>
    go_wp2_with fail
    go_ret
    exact ⟨rfl, next B3 b4⟩
  have B4 := next B3 b4
  clear CG B3 b4
  go_wp2_with fail
  refine (CB.out _).mono ?_; rintro e w' ⟨rfl, hww⟩; cases hww
  cases x3
  case' true =>
    go_wp2_with fail
    refine (CA.out _).mono ?_; rintro e w' ⟨rfl, hww⟩; cases hww
    go_wp2_with fail
    refine (CD'.out _).mono ?_; rintro e w' ⟨rfl, hww⟩; cases hww
    go_wp2_with fail
    refine (CN.out _ B4).mono ?_; rintro e w5 ⟨rfl, b5⟩
    go_wp2_with fail
    refine (CR.out _).mono ?_; rintro e w' ⟨rfl, hww⟩; cases hww
    go_wp2_with fail
    go_ret
    exact ⟨rfl, next B4 b5⟩
  go_wp2_with fail
  refine (CC.out _).mono ?_; rintro e w' ⟨rfl, hww⟩; cases hww
  cases x4
  case' true =>
    go_wp2_with fail
    refine (CE.out _).mono ?_; rintro e w' ⟨rfl, hww⟩; cases hww
    go_wp2_with fail
    refine (CH.out _).mono ?_; rintro e w' ⟨rfl, hww⟩; cases hww
    go_wp2_with fail
    refine (CZ.out (by simp) _ B4).mono ?_; rintro e w5 ⟨rfl, b5⟩
    go_wp2_with fail
    go_ret
    exact ⟨rfl, next B4 b5⟩
  go_wp2_with fail
  refine (CI.out _).mono ?_; rintro e w' ⟨rfl, hww⟩; cases hww
  cases x5
  case' false =>
    go_wp2_with fail
    go_ret
    exact ⟨rfl, B4⟩
  go_wp2_with fail
  refine (CJ.out _).mono ?_; rintro e w' ⟨rfl, hww⟩; cases hww
  cases x6
  case' false =>
    go_wp2_with fail
    go_ret
    exact ⟨rfl, B4⟩
  go_wp2_with fail
  go_ret
  exact ⟨rfl, B4⟩
end Go.Proofs.Ytknppdpcgdncdaa.T
