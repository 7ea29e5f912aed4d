/- Texts TU FBa FBb FRc. -/
import Derived.Test.YtccbgdbipihoaaaGreatBw35
import Derived.Test.YtccbgdbipihoaaaGreatBw34
import Derived.Deep.CutRange
namespace Go.Proofs.YtccbgdbipihoaaaGreat.T
open Go.RowKit Q Q.D K

theorem hp_slot {s : ByteArray} (h : slotK s = true) (p : Bs) (hp : Lib.hasPrefix (bsB s) (91 :: p) = true) : fieldB (bsB s) = true := by
  unfold slotK at h
  rcases Bool.or_eq_true_iff.1 h with h | h
  · rw [eq_of_beq h] at hp; simp [Lib.hasPrefix] at hp
  · rcases Bool.or_eq_true_iff.1 h with h | h
    · rw [eq_of_beq h] at hp; simp [Lib.hasPrefix] at hp
    · exact h
theorem hp_head {l : Bs} {c : UInt8} {p : Bs} (hp : Lib.hasPrefix l (c :: p) = true) : ∃ t, l = c :: t ∧ Lib.hasPrefix t p = true := by
  cases l with
  | nil => simp [Lib.hasPrefix] at hp
  | cons d t =>
    simp [Lib.hasPrefix, List.isPrefixOf] at hp
    exact ⟨t, by rw [hp.1], by simpa [Lib.hasPrefix] using hp.2⟩
theorem bs_str (l : Bs) : bsB (str l) = l := rfl
theorem eS_arr {s : ByteArray} (h : slotK s = true) (hp : Lib.hasPrefix (bsB s) [91, 76] = true) : Lib.hasPrefix (bsB (eS s)) [76] = true ∧ Lib.hasPrefix (bsB (eS s)) [91, 76] = false := by
  have hf := hp_slot h _ hp
  obtain ⟨t, ht, hp2⟩ := hp_head hp
  unfold eS elemZ
  rw [if_pos ⟨hf, by rw [ht]; rfl⟩, bs_str, ht]
  refine ⟨by simpa using hp2, ?_⟩
  obtain ⟨u, hu, _⟩ := hp_head hp2
  rw [hu]
  rfl
def flatK (R : List KD) (a b : ByteArray) : Bool := if (bsB b == [63]) || (bsB a == bsB b) then true else if bsB a == [48] then isRefK b else if bothK a b [76] then ksub R (cS a) (cS b) else if Lib.hasPrefix (bsB a) [91] && (bsB b == objL) then true else false
theorem flat_of {R : List KD} {n : Nat} {a b : ByteArray} (h : bothK a b [91, 76] = false) : fitsK R (n + 1) a b = flatK R a b := by
  unfold fitsK flatK
  rw [h]
  rfl
theorem le2 {n : Nat} {a b : ByteArray} (h : a.size ≤ b.size) (k : b.size ≤ n) : a.size ≤ n := Nat.le_trans h k
set_option maxRecDepth 8000 in
set_option maxHeartbeats 4000000 in
theorem fits_gen (w : World) (pk : Nat) (R : List Mem) (mb : Nat) (ao : Option Addr) (c : Nat) (h : KinV w pk R mb ao c) (a b : ByteArray) (ha : a.size ≤ 9223372036854775000) (hb : b.size ≤ 9223372036854775000) (z : Bool)
    (hz : bothK a b [91, 76] = true → Calls Tryz.prog 71 #[.pointer (some ⟨pk, 0, none⟩), .string (eS a), .string (eS b)] w fun e w' => e = .returned (.bool z) ∧ Below w.heap.size w w') (hz0 : bothK a b [91, 76] = false → z = false) :
    Calls Tryz.prog 71 #[.pointer (some ⟨pk, 0, none⟩), .string a, .string b] w fun e w' => e = .returned (.bool (if (bsB b == [63]) || (bsB a == bsB b) then true else if bsB a == [48] then isRefK b else if bothK a b [76] then ksub (R.map Mem.k) (cS a) (cS b) else if Lib.hasPrefix (bsB a) [91] && (bsB b == objL) then true else z)) ∧ Below w.heap.size w w' := by
  have C1 := D.hidIt (isRef_t b w (by omega))
  have C2 := D.hidIt (both_t a b ⟨#[76]⟩ w)
  have C3 := D.hidIt (both_t a b ⟨#[91, 76]⟩ w)
  have C4 := D.hidIt (class_t a w (by omega))
  have C5 := D.hidIt (class_t b w (by omega))
  have C6 := D.hidIt (sub_any w pk R mb ao c h (cS a) (cS b))
  have C7 := D.hidIt (Tryz.strings_HasPrefix a ⟨#[91]⟩ w)
  have C8 := D.hidIt (elem_t a w (by omega))
  have C9 := D.hidIt (elem_t b w (by omega))
  rw [subB_k'] at C6
  change Hid (Calls _ _ _ _ fun e w' => e = .returned (.bool (bothK a b [76])) ∧ w' = w) at C2
  change Hid (Calls _ _ _ _ fun e w' => e = .returned (.bool (bothK a b [91, 76])) ∧ w' = w) at C3
  change Hid (Calls _ _ _ _ fun e w' => e = .returned (.bool (Lib.hasPrefix (bsB a) [91])) ∧ w' = w) at C7
  have t1 : (b.toList == [63]) = (bsB b == [63]) := by rw [Lib.toList_data]
  have t2 : (a.toList == b.toList) = (bsB a == bsB b) := by rw [Lib.toList_data, Lib.toList_data]
  have t3 : (a.toList == [48]) = (bsB a == [48]) := by rw [Lib.toList_data]
  have t4 : (b.toList == [76, 79, 98, 106, 101, 99, 116, 59]) = (bsB b == objL) := by rw [Lib.toList_data]; rfl
  have HZ := D.hidIt hz
  have HZ0 := D.hidIt hz0
  clear hz hz0 h ha hb
  generalize (bsB b == [63]) = x1 at *
  generalize (bsB a == bsB b) = x2 at *
  generalize (bsB a == [48]) = x3 at *
  generalize (bsB b == objL) = x4 at *
  generalize isRefK b = x5 at *
  generalize bothK a b [76] = x6 at *
  generalize bothK a b [91, 76] = x7 at *
  generalize ksub (R.map Mem.k) (cS a) (cS b) = x8 at *
  generalize Lib.hasPrefix (bsB a) [91] = x9 at *
  generalize cS a = ca at *
  generalize cS b = cb at *
  generalize eS a = ea at *
  generalize eS b = eb at *
  cases x1
  · cases x2
    · cases x3
      · cases x6
        · cases x9
          · cases x7
            · have e := HZ0.out rfl
              subst e
              go_enter Tryz.func71, Tryz.ntmps71
              go_wp2_with fail
              refine C2.out.mono ?_; rintro e w' ⟨rfl, hww⟩; cases hww
              go_wp2_with fail
              refine C7.out.mono ?_; rintro e w' ⟨rfl, hww⟩; cases hww
              go_wp2_with fail
              refine C3.out.mono ?_; rintro e w' ⟨rfl, hww⟩; cases hww
              go_wp2_with fail
              go_ret
              exact ⟨rfl, Below.refl _ _⟩
            · go_enter Tryz.func71, Tryz.ntmps71
              go_wp2_with fail
              refine C2.out.mono ?_; rintro e w' ⟨rfl, hww⟩; cases hww
              go_wp2_with fail
              refine C7.out.mono ?_; rintro e w' ⟨rfl, hww⟩; cases hww
              go_wp2_with fail
              refine C3.out.mono ?_; rintro e w' ⟨rfl, hww⟩; cases hww
              go_wp2_with fail
              refine C8.out.mono ?_; rintro e w' ⟨rfl, hww⟩; cases hww
              go_wp2_with fail
              refine C9.out.mono ?_; rintro e w' ⟨rfl, hww⟩; cases hww
              go_wp2_with fail
              refine (HZ.out (by simp)).mono ?_; rintro e w' ⟨rfl, hw⟩
              go_wp2_with fail
              go_ret
              exact ⟨by simp, hw⟩
          · cases x4
            · cases x7
              · have e := HZ0.out rfl
                subst e
                go_enter Tryz.func71, Tryz.ntmps71
                go_wp2_with fail
                refine C2.out.mono ?_; rintro e w' ⟨rfl, hww⟩; cases hww
                go_wp2_with fail
                refine C7.out.mono ?_; rintro e w' ⟨rfl, hww⟩; cases hww
                go_wp2_with fail
                refine C3.out.mono ?_; rintro e w' ⟨rfl, hww⟩; cases hww
                go_wp2_with fail
                go_ret
                exact ⟨rfl, Below.refl _ _⟩
              · go_enter Tryz.func71, Tryz.ntmps71
                go_wp2_with fail
                refine C2.out.mono ?_; rintro e w' ⟨rfl, hww⟩; cases hww
                go_wp2_with fail
                refine C7.out.mono ?_; rintro e w' ⟨rfl, hww⟩; cases hww
                go_wp2_with fail
                refine C3.out.mono ?_; rintro e w' ⟨rfl, hww⟩; cases hww
                go_wp2_with fail
                refine C8.out.mono ?_; rintro e w' ⟨rfl, hww⟩; cases hww
                go_wp2_with fail
                refine C9.out.mono ?_; rintro e w' ⟨rfl, hww⟩; cases hww
                go_wp2_with fail
                refine (HZ.out (by simp)).mono ?_; rintro e w' ⟨rfl, hw⟩
                go_wp2_with fail
                go_ret
                exact ⟨by simp, hw⟩
            · go_enter Tryz.func71, Tryz.ntmps71
              go_wp2_with fail
              refine C2.out.mono ?_; rintro e w' ⟨rfl, hww⟩; cases hww
              go_wp2_with fail
              refine C7.out.mono ?_; rintro e w' ⟨rfl, hww⟩; cases hww
              go_wp2_with fail
              go_ret
              exact ⟨rfl, Below.refl _ _⟩
        · go_enter Tryz.func71, Tryz.ntmps71
          go_wp2_with fail
          refine C2.out.mono ?_; rintro e w' ⟨rfl, hww⟩; cases hww
          go_wp2_with fail
          refine C4.out.mono ?_; rintro e w' ⟨rfl, hww⟩; cases hww
          go_wp2_with fail
          refine C5.out.mono ?_; rintro e w' ⟨rfl, hww⟩; cases hww
          go_wp2_with fail
          refine C6.out.mono ?_; rintro e w' ⟨rfl, hw⟩
          go_wp2_with fail
          go_ret
          exact ⟨by simp, hw⟩
      · go_enter Tryz.func71, Tryz.ntmps71
        go_wp2_with fail
        refine C1.out.mono ?_; rintro e w' ⟨rfl, hww⟩; cases hww
        go_wp2_with fail
        go_ret
        exact ⟨by simp, Below.refl _ _⟩
    · go_enter Tryz.func71, Tryz.ntmps71
      go_wp2_with fail
      go_ret
      exact ⟨rfl, Below.refl _ _⟩
  · go_enter Tryz.func71, Tryz.ntmps71
    go_wp2_with fail
    go_ret
    exact ⟨rfl, Below.refl _ _⟩
theorem fits_t (w : World) (pk : Nat) (R : List Mem) (mb : Nat) (ao : Option Addr) (c : Nat) (h : KinV w pk R mb ao c) (a b : ByteArray) (ha : a.size ≤ 9223372036854775000) (hb : b.size ≤ 9223372036854775000) (sa : slotK a = true) :
    Calls Tryz.prog 71 #[.pointer (some ⟨pk, 0, none⟩), .string a, .string b] w fun e w' => e = .returned (.bool (fitsK (R.map Mem.k) 2 a b)) ∧ Below w.heap.size w w' := by
  cases hk : bothK a b [91, 76]
  · have := fits_gen w pk R mb ao c h a b ha hb false (fun e => by rw [hk] at e; cases e) (fun _ => rfl)
    unfold fitsK
    rw [hk]
    exact this
  · have h2 : bothK (eS a) (eS b) [91, 76] = false := by
      unfold bothK at hk ⊢
      rw [(eS_arr sa (Bool.and_eq_true_iff.1 hk).1).2]
      rfl
    have h1 := fits_gen w pk R mb ao c h (eS a) (eS b) (le2 (eS_size a) ha) (le2 (eS_size b) hb) false (fun e => by rw [h2] at e; cases e) (fun _ => rfl)
    have := fits_gen w pk R mb ao c h a b ha hb (fitsK (R.map Mem.k) 1 (eS a) (eS b)) (fun _ => by rw [flat_of h2]; exact h1) (fun e => by rw [hk] at e; cases e)
    unfold fitsK
    rw [hk]
    exact this
theorem known_slot {R : List KD} {s : ByteArray} (h : knownK R s = true) : slotK s = true := (Bool.and_eq_true_iff.1 h).1
set_option maxRecDepth 8000 in
set_option maxHeartbeats 4000000 in
theorem Fits_t (w : World) (pk : Nat) (R : List Mem) (mb : Nat) (ao : Option Addr) (c : Nat) (h : KinV w pk R mb ao c) (a b : ByteArray) (ha : a.size ≤ 9223372036854775000) (hb : b.size ≤ 9223372036854775000) :
    Calls Tryz.prog 33 #[.pointer (some ⟨pk, 0, none⟩), .string a, .string b] w fun e w' => e = .returned (.bool (FitsK (R.map Mem.k) a b)) ∧ Below w.heap.size w w' := by
  have C1 := D.hidIt (known_t w pk R mb ao c h a ha)
  unfold FitsK
  cases ka : knownK (R.map Mem.k) a
  · rw [ka] at C1
    go_enter Tryz.func33, Tryz.ntmps33
    go_wp2_with fail
    refine C1.out.mono ?_; rintro e w' ⟨rfl, b1⟩
    go_wp2_with fail
    go_ret
    exact ⟨rfl, b1⟩
  · cases kb : knownK (R.map Mem.k) b
    · rw [ka] at C1
      go_enter Tryz.func33, Tryz.ntmps33
      go_wp2_with fail
      refine C1.out.mono ?_; rintro e w1 ⟨rfl, b1⟩
      have C2 := D.hidIt (known_t w1 pk R mb ao c (h.below b1) b hb)
      rw [kb] at C2
      go_wp2_with fail
      refine C2.out.mono ?_; rintro e w2 ⟨rfl, b2⟩
      go_wp2_with fail
      go_ret
      exact ⟨rfl, next b1 b2⟩
    · rw [ka] at C1
      have sa := known_slot ka

      clear ka
      go_enter Tryz.func33, Tryz.ntmps33
      go_wp2_with fail
      refine C1.out.mono ?_; rintro e w1 ⟨rfl, b1⟩
      have C2 := D.hidIt (known_t w1 pk R mb ao c (h.below b1) b hb)
      rw [kb] at C2
      go_wp2_with fail
      refine C2.out.mono ?_; rintro e w2 ⟨rfl, b2⟩
      have C3 := D.hidIt (fits_t w2 pk R mb ao c ((h.below b1).below b2) a b ha hb sa)
      go_wp2_with fail
      refine C3.out.mono ?_; rintro e w3 ⟨rfl, b3⟩
      go_wp2_with fail
      go_ret
      exact ⟨by simp, next b1 (next b2 b3)⟩
end Go.Proofs.YtccbgdbipihoaaaGreat.T
namespace Go.Proofs.YtccbgdbipihoaaaGreat.Fr
open Go.RowKit Q Q.D K T

theorem FrV.rows {w : World} {ao : Option Addr} {c : Nat} {l : List ByteArray} (h : LAt 1 TextR w ao c l) : 0 < l.length → ∃ b off, ao = some ⟨b, off, none⟩ ∧ b < w.heap.size ∧ ∀ j, j < l.length → w.cell? ⟨b, off + j, none⟩ = some (.string (l.getD j ⟨#[]⟩)) := by
  intro h0
  obtain ⟨_, _, rows, hr, k⟩ := h
  obtain ⟨b, off, e, hlt, d⟩ := hr h0
  refine ⟨b, off, e, hlt, fun j hj => ?_⟩
  obtain ⟨x, hx⟩ : ∃ x, l[j]? = some x := ⟨_, List.getElem?_eq_getElem hj⟩
  have := d j hj 0 (.string x) (by rw [(k j x hx).1]; rfl)
  rw [List.getD_eq_getElem?_getD, hx]
  simpa using this
set_option maxRecDepth 8000 in
set_option maxHeartbeats 1000000 in
theorem unknown_any (w : World) (pk : Nat) (R : List Mem) (mb : Nat) (ao : Option Addr) (c : Nat) (h : KinV w pk R mb ao c) (s : ByteArray) (hs : s.size ≤ 9223372036854775000) (B : Nat) (hB : w.cell? ⟨B, 0, none⟩ = some (.pointer (some ⟨pk, 0, none⟩))) :
    Calls Tryz.prog 59 #[.string s, .pointer (some ⟨B, 0, none⟩)] w fun e w' => e = .returned (.bool (!(knownK (R.map Mem.k) s))) ∧ Below w.heap.size w w' := by
  have GK := D.hidIt (known_t w pk R mb ao c h s hs)
  go_enter Tryz.func59, Tryz.ntmps59
  go_wp2_with (first | (go_at_call 29; refine GK.out.mono ?_; rintro e w' ⟨rfl, b⟩))
  go_ret
  exact ⟨rfl, b⟩
theorem hasKn (w : World) (pk : Nat) (R : List Mem) (mb : Nat) (ao : Option Addr) (c : Nat) (h : KinV w pk R mb ao c) (o : Option Addr) (cc : Nat) (l : List ByteArray) (hl : LAt 1 TextR w o cc l) (hs : ∀ s ∈ l, s.size ≤ 9223372036854775000) (B : Nat) (hB : w.cell? ⟨B, 0, none⟩ = some (.pointer (some ⟨pk, 0, none⟩))) :
    Calls Tryz.prog 60 #[.slice o l.length cc, .func (.func 59) #[] #[.pointer (some ⟨B, 0, none⟩)]] w fun e w' => e = .returned (.bool (!(l.all (knownK (R.map Mem.k))))) ∧ Below w.heap.size w w' := by
  have := hasE Tryz.hasS (fun j => .string (l.getD j ⟨#[]⟩)) (fun j => !(knownK (R.map Mem.k) (l.getD j ⟨#[]⟩))) 59 #[.pointer (some ⟨B, 0, none⟩)] (enters_of Tryz.func59 (by kernel_rfl) rfl) o l.length cc w (fun W j hj hW => by
    have hm : l.getD j ⟨#[]⟩ ∈ l := by
      rw [List.getD_eq_getElem?_getD, List.getElem?_eq_getElem hj]
      exact List.getElem_mem hj
    refine (unknown_any W pk R mb ao c (h.below hW) _ (hs _ hm) B (cell_later hW hB)).mono ?_
    rintro e w' ⟨rfl, b⟩
    exact ⟨rfl, hW.trans (b.mono hW.size)⟩) hl.big (FrV.rows hl)
  refine this.mono ?_
  rintro e w' ⟨rfl, b⟩
  refine ⟨?_, b⟩
  rw [anyN_list l _ (fun s => !(knownK (R.map Mem.k) s)) (fun i x hx => by rw [List.getD_eq_getElem?_getD, hx]; rfl), List.all_eq_not_any_not]
  simp
set_option maxRecDepth 8000 in
set_option maxHeartbeats 2000000 in
theorem knownF_any (w : World) (pk : Nat) (R : List Mem) (mb : Nat) (ao : Option Addr) (c : Nat) (h : KinV w pk R mb ao c) (v : Value) (f : RD) (hv : FrV w v f) (h1 : ∀ s ∈ f.loc, s.size ≤ 9223372036854775000) (h2 : ∀ s ∈ f.stk, s.size ≤ 9223372036854775000) :
    Calls Tryz.prog 17 #[.pointer (some ⟨pk, 0, none⟩), v] w fun e w' => e = .returned (.bool (f.loc.all (knownK (R.map Mem.k)) && f.stk.all (knownK (R.map Mem.k)))) ∧ Below w.heap.size w w' := by
  obtain ⟨o1, c1, o2, c2, rfl, k1, k2⟩ := hv
  have B2 : Below w.heap.size w ((w.alloc (.cells #[.pointer (some ⟨pk, 0, none⟩)] 31)).alloc (.cells #[.int .i64 f.aT, .slice o1 f.loc.length c1, .slice o2 f.stk.length c2] 25)) := ((Below.refl _ w).alloc (Nat.le_refl _) _).alloc (by simp) _
  have P2 := (Blk.new w #[.pointer (some ⟨pk, 0, none⟩)] 31).alloc (.cells #[.int .i64 f.aT, .slice o1 f.loc.length c1, .slice o2 f.stk.length c2] 25)
  have F2 := Blk.new (w.alloc (.cells #[.pointer (some ⟨pk, 0, none⟩)] 31)) #[.int .i64 f.aT, .slice o1 f.loc.length c1, .slice o2 f.stk.length c2] 25
  rw [World.size_alloc] at F2
  have G := D.hidIt (fun (o : Option Addr) (cc : Nat) (l : List ByteArray) (hl : LAt 1 TextR w o cc l) (hs : ∀ s ∈ l, s.size ≤ 9223372036854775000) W (hW : Below w.heap.size w W) (hP : Blk W w.heap.size #[.pointer (some ⟨pk, 0, none⟩)] 31) => hasKn W pk R mb ao c (h.below hW) o cc l (hl.below hW (fun _ _ h => h)) hs w.heap.size (hP.cell 0))
  have GA := D.hidIt (G.out o1 c1 f.loc k1 h1 _ B2 P2)
  have GB := D.hidIt (fun W hW hP => G.out o2 c2 f.stk k2 h2 W hW hP)
  have x2 := F2.cell 2
  have HB2 := D.hidIt B2
  have HP2 := D.hidIt P2
  have HF2 := D.hidIt F2
  clear G k1 k2 h1 h2 h P2 F2 x2 B2
  cases ha : f.loc.all (knownK (R.map Mem.k))
  · rw [ha] at GA
    clear GB
    go_enter Tryz.func17, Tryz.ntmps17
    go_wp2_with (first | (go_at_call 60; refine GA.out.mono ?_; rintro e w3 ⟨rfl, b3⟩))
    go_ret
    exact ⟨rfl, HB2.out.trans (b3.mono HB2.out.size)⟩
  · rw [ha] at GA
    cases hb : f.stk.all (knownK (R.map Mem.k)) <;>
    · rw [hb] at GB
      go_enter Tryz.func17, Tryz.ntmps17
      go_upto_region 2 with (fail)
      generalize (w.alloc (.cells #[.pointer (some ⟨pk, 0, none⟩)] 31)).alloc (.cells #[.int .i64 f.aT, .slice o1 f.loc.length c1, .slice o2 f.stk.length c2] 25) = W2 at *
      have x1 := HF2.out.cell 1
      simp at x1
      have hPP : Blk W2 w.heap.size #[.pointer (some ⟨pk, 0, none⟩)] 31 := HP2.out
      go_wp2_with (first
        | (go_at_call 60; refine GA.out.mono ?_; rintro e w3 ⟨rfl, b3⟩; clear GA; have x2 := (HF2.out.below b3).cell 2; simp at x2; have B3 := HB2.out.trans (b3.mono HB2.out.size); have P3 := hPP.below b3; have GC := D.hidIt (GB.out _ B3 P3))
        | (go_at_call 60; refine GC.out.mono ?_; rintro e w4 ⟨rfl, b4⟩))
      go_ret
      exact ⟨rfl, B3.trans (b4.mono B3.size)⟩
end Go.Proofs.YtccbgdbipihoaaaGreat.Fr
namespace Go.Proofs.YtccbgdbipihoaaaGreat.Fr
open Go.RowKit Q Q.D K T

set_option maxRecDepth 8000 in
set_option maxHeartbeats 1000000 in
theorem fitsClo_any (w : World) (pk : Nat) (R : List Mem) (mb : Nat) (ao : Option Addr) (c : Nat) (h : KinV w pk R mb ao c) (s t : ByteArray) (hs : s.size ≤ 9223372036854775000) (ht : t.size ≤ 9223372036854775000) (B : Nat) (hB : w.cell? ⟨B, 0, none⟩ = some (.pointer (some ⟨pk, 0, none⟩))) :
    Calls Tryz.prog 104 #[.string s, .string t, .pointer (some ⟨B, 0, none⟩)] w fun e w' => e = .returned (.bool (FitsK (R.map Mem.k) s t)) ∧ Below w.heap.size w w' := by
  have GK := D.hidIt (Fits_t w pk R mb ao c h s t hs ht)
  go_enter Tryz.func104, Tryz.ntmps104
  go_wp2_with (first | (go_at_call 33; refine GK.out.mono ?_; rintro e w' ⟨rfl, b⟩))
  go_ret
  exact ⟨rfl, b⟩
def fitL (R : List KD) : List ByteArray → List ByteArray → Bool
  | [], [] => true
  | a :: l, b :: m => FitsK R a b && fitL R l m
  | _, _ => false
theorem fitL_len {R : List KD} : ∀ {l m : List ByteArray}, l.length ≠ m.length → fitL R l m = false
  | [], [], h => absurd rfl h
  | [], _ :: _, _ => rfl
  | _ :: _, [], _ => rfl
  | a :: l, b :: m, h => by
    rw [fitL, fitL_len (fun e => h (by simp [e])), Bool.and_false]
theorem fitL_self {R : List KD} : ∀ (l : List ByteArray), fitL R l l = l.all (knownK R)
  | [] => rfl
  | a :: l => by
    rw [fitL, List.all_cons, fitL_self l]
    have : FitsK R a a = knownK R a := by
      unfold FitsK fitsK
      simp
    rw [this]
set_option maxRecDepth 8000 in
set_option maxHeartbeats 2000000 in
theorem equalFits_any (w : World) (pk : Nat) (R : List Mem) (mb : Nat) (ao : Option Addr) (c : Nat) (h : KinV w pk R mb ao c) (o1 o2 : Option Addr) (c1 c2 : Nat) (l m : List ByteArray) (hl : LAt 1 TextR w o1 c1 l) (hm : LAt 1 TextR w o2 c2 m) (hs : ∀ s ∈ l, s.size ≤ 9223372036854775000) (ht : ∀ s ∈ m, s.size ≤ 9223372036854775000) (B : Nat) (hB : w.cell? ⟨B, 0, none⟩ = some (.pointer (some ⟨pk, 0, none⟩))) :
    Calls Tryz.prog 103 #[.slice o1 l.length c1, .slice o2 m.length c2, .func (.func 104) #[] #[.pointer (some ⟨B, 0, none⟩)]] w fun e w' => e = .returned (.bool (fitL (R.map Mem.k) l m)) ∧ Below w.heap.size w w' := by
  have hbig := hl.big
  by_cases hne : ¬ l.length = m.length
  · rw [fitL_len hne]
    have hne' : ¬ (l.length : Int) = (m.length : Int) := by omega
    go_enter Tryz.func103, Tryz.ntmps103
    go_wp2_with fail
    go_ret
    exact ⟨rfl, Below.refl _ _⟩
  have hne2 := Decidable.not_not.1 hne
  clear hne
  have hne := hne2
  clear hne2
  have HL := D.hidIt (FrV.rows hl)
  have HM := D.hidIt (FrV.rows hm)
  have G := D.hidIt (fun (j : Nat) (h1 : j < l.length) W (hW : Below w.heap.size w W) => fitsClo_any W pk R mb ao c (h.below hW) (l.getD j ⟨#[]⟩) (m.getD j ⟨#[]⟩) (by
    rw [List.getD_eq_getElem?_getD, List.getElem?_eq_getElem h1]; exact hs _ (List.getElem_mem h1)) (by
    rw [List.getD_eq_getElem?_getD, List.getElem?_eq_getElem (by omega)]; exact ht _ (List.getElem_mem (by omega))) B (cell_later hW hB))
  have hZ : Hid (fitL (R.map Mem.k) (l.drop 0) (m.drop 0) = fitL (R.map Mem.k) l m) := rfl
  have HNE := D.hidIt hne
  clear hl hm hs ht h hB
  rw [← hne] at HM ⊢
  generalize fitL (R.map Mem.k) l m = Z at *
  clear hne
  have eg : ∀ args w, (callFunc 104 args).run Tryz.prog w = .ok (.enter 104 args) w := enters_of Tryz.func104 (by kernel_rfl) rfl
  go_enter Tryz.func103, Tryz.ntmps103
  go_wp2_with fail
  go_loopw [17] (fun iv wr => ∃ i : Nat, iv = .int .i64 (i : Int) ∧ i ≤ l.length ∧ Below w.heap.size w wr ∧ fitL (R.map Mem.k) (l.drop i) (m.drop i) = Z) (fun iv _ => l.length - (intOf iv).toNat)
  case atStart => exact ⟨0, rfl, Nat.zero_le _, Below.refl _ _, hZ.out⟩
  case round =>
    obtain ⟨i, rfl, hi, hb, hz⟩ := hrel
    have HB := D.hidIt hb
    clear hb hZ
    by_cases hlt : i < l.length
    · have hlt' : (i : Int) < (l.length : Int) := by omega
      obtain ⟨b1, f1, e1, q1, d1⟩ := HL.out (by omega)
      obtain ⟨b2, f2, e2, q2, d2⟩ := HM.out (by omega)
      subst e1 e2
      have x1 := cell_later HB.out (d1 i hlt)
      have x2 := cell_later HB.out (d2 i hlt)
      have GF := D.hidIt (G.out i hlt wr HB.out)
      have hlm : i < m.length := by have := HNE.out; omega
      have hz2 : fitL (R.map Mem.k) (l.drop i) (m.drop i) = (FitsK (R.map Mem.k) (l.getD i ⟨#[]⟩) (m.getD i ⟨#[]⟩) && fitL (R.map Mem.k) (l.drop (i + 1)) (m.drop (i + 1))) := by
        rw [List.drop_eq_getElem_cons hlt, List.drop_eq_getElem_cons hlm, fitL, List.getD_eq_getElem?_getD, List.getD_eq_getElem?_getD, List.getElem?_eq_getElem hlt, List.getElem?_eq_getElem hlm]
        rfl
      rw [hz2] at hz
      clear hz2 d1 d2 hlm
      generalize l.getD i ⟨#[]⟩ = sa at *
      generalize m.getD i ⟨#[]⟩ = sb at *
      cases hF : FitsK (R.map Mem.k) sa sb
      · rw [hF] at GF hz
        have hZf : Z = false := by rw [← hz]; rfl
        have HZ := D.hidIt hZf
        clear hz hZf
        go_wp2_with (go_at_fn 104; refine GF.out.mono ?_; rintro e w2 ⟨rfl, b2⟩)
        go_ret
        exact ⟨by rw [HZ.out]; rfl, HB.out.trans (b2.mono HB.out.size)⟩
      · rw [hF, Bool.true_and] at hz
        rw [hF] at GF
        have HZ := D.hidIt hz
        clear hz
        go_wp2_with (go_at_fn 104; refine GF.out.mono ?_; rintro e w2 ⟨rfl, b2⟩)
        exact ⟨⟨i + 1, by go_num, by omega, HB.out.trans (b2.mono HB.out.size), HZ.out⟩, by simp [intOf]; omega⟩
    · have hlt' : ¬ (i : Int) < (l.length : Int) := by omega
      obtain rfl : i = l.length := by omega
      rw [List.drop_length, List.drop_eq_nil_of_le (by have := HNE.out; omega)] at hz
      have hZt : Z = true := by rw [← hz]; rfl
      have HZ := D.hidIt hZt
      clear hz hZt
      go_wp2_with fail
      go_ret
      exact ⟨by rw [HZ.out]; rfl, HB.out⟩
set_option maxRecDepth 8000 in
set_option maxHeartbeats 2000000 in
theorem eachFits_any (w : World) (pk : Nat) (R : List Mem) (mb : Nat) (ao : Option Addr) (c : Nat) (h : KinV w pk R mb ao c) (o1 o2 : Option Addr) (c1 c2 : Nat) (l m : List ByteArray) (hl : LAt 1 TextR w o1 c1 l) (hm : LAt 1 TextR w o2 c2 m) (hs : ∀ s ∈ l, s.size ≤ 9223372036854775000) (ht : ∀ s ∈ m, s.size ≤ 9223372036854775000) :
    Calls Tryz.prog 57 #[.pointer (some ⟨pk, 0, none⟩), .slice o1 l.length c1, .slice o2 m.length c2] w fun e w' => e = .returned (.bool (fitL (R.map Mem.k) l m)) ∧ Below w.heap.size w w' := by
  have b1 := balloc w (.cells #[.pointer (some ⟨pk, 0, none⟩)] 31)
  have G := D.hidIt (equalFits_any _ pk R mb ao c (h.below b1) o1 o2 c1 c2 l m (hl.below b1 (fun _ _ h => h)) (hm.below b1 (fun _ _ h => h)) hs ht w.heap.size ((Blk.new w #[.pointer (some ⟨pk, 0, none⟩)] 31).cell 0))
  go_enter Tryz.func57, Tryz.ntmps57
  go_wp2_with (first | (go_at_call 103; refine G.out.mono ?_; rintro e w2 ⟨rfl, b2⟩))
  go_ret
  exact ⟨rfl, b1.trans (b2.mono b1.size)⟩
set_option maxRecDepth 8000 in
set_option maxHeartbeats 2000000 in
theorem fitsF_any (w : World) (pk : Nat) (R : List Mem) (mb : Nat) (ao : Option Addr) (c : Nat) (h : KinV w pk R mb ao c) (v u : Value) (f g : RD) (hv : FrV w v f) (hu : FrV w u g) (h1 : ∀ s ∈ f.loc, s.size ≤ 9223372036854775000) (h2 : ∀ s ∈ f.stk, s.size ≤ 9223372036854775000) (h3 : ∀ s ∈ g.loc, s.size ≤ 9223372036854775000) (h4 : ∀ s ∈ g.stk, s.size ≤ 9223372036854775000) :
    Calls Tryz.prog 15 #[.pointer (some ⟨pk, 0, none⟩), v, u] w fun e w' => e = .returned (.bool (fitL (R.map Mem.k) f.loc g.loc && fitL (R.map Mem.k) f.stk g.stk)) ∧ Below w.heap.size w w' := by
  obtain ⟨o1, c1, o2, c2, rfl, k1, k2⟩ := hv
  obtain ⟨p1, d1, p2, d2, rfl, m1, m2⟩ := hu
  have b2 := (balloc w (.cells #[.int .i64 f.aT, .slice o1 f.loc.length c1, .slice o2 f.stk.length c2] 25)).trans ((balloc _ (.cells #[.int .i64 g.aT, .slice p1 g.loc.length d1, .slice p2 g.stk.length d2] 25)).mono (by simp))
  have X2 := (Blk.new w #[.int .i64 f.aT, .slice o1 f.loc.length c1, .slice o2 f.stk.length c2] 25).alloc (.cells #[.int .i64 g.aT, .slice p1 g.loc.length d1, .slice p2 g.stk.length d2] 25)
  have Y2 := Blk.new (w.alloc (.cells #[.int .i64 f.aT, .slice o1 f.loc.length c1, .slice o2 f.stk.length c2] 25)) #[.int .i64 g.aT, .slice p1 g.loc.length d1, .slice p2 g.stk.length d2] 25
  rw [World.size_alloc] at Y2
  have GA := D.hidIt (eachFits_any _ pk R mb ao c (h.below b2) o1 p1 c1 d1 f.loc g.loc (k1.below b2 (fun _ _ h => h)) (m1.below b2 (fun _ _ h => h)) h1 h3)
  have GB := D.hidIt (fun W hW => eachFits_any W pk R mb ao c (h.below hW) o2 p2 c2 d2 f.stk g.stk (k2.below hW (fun _ _ h => h)) (m2.below hW (fun _ _ h => h)) h2 h4)
  have HB2 := D.hidIt b2
  have HX2 := D.hidIt X2
  have HY2 := D.hidIt Y2
  clear k1 k2 m1 m2 h1 h2 h3 h4 h b2 X2 Y2
  cases ha : fitL (R.map Mem.k) f.loc g.loc
  · rw [ha] at GA
    clear GB
    go_enter Tryz.func15, Tryz.ntmps15
    go_wp2_with (first | (go_at_call 57; refine GA.out.mono ?_; rintro e w3 ⟨rfl, b3⟩))
    go_ret
    exact ⟨rfl, HB2.out.trans (b3.mono HB2.out.size)⟩
  · rw [ha] at GA
    cases hb : fitL (R.map Mem.k) f.stk g.stk <;>
    · rw [hb] at GB
      go_enter Tryz.func15, Tryz.ntmps15
      go_upto_region 1 with (fail)
      generalize (w.alloc (.cells #[.int .i64 f.aT, .slice o1 f.loc.length c1, .slice o2 f.stk.length c2] 25)).alloc (.cells #[.int .i64 g.aT, .slice p1 g.loc.length d1, .slice p2 g.stk.length d2] 25) = W2 at *
      have x1 := HX2.out.cell 1
      have y1 := HY2.out.cell 1
      simp at x1 y1
      go_wp2_with (first
        | (go_at_call 57; refine GA.out.mono ?_; rintro e w3 ⟨rfl, b3⟩; clear GA; have x2 := (HX2.out.below b3).cell 2; have y2 := (HY2.out.below b3).cell 2; simp at x2 y2; have B3 := HB2.out.trans (b3.mono HB2.out.size); have GC := D.hidIt (GB.out _ B3))
        | (go_at_call 57; refine GC.out.mono ?_; rintro e w4 ⟨rfl, b4⟩))
      go_ret
      exact ⟨rfl, B3.trans (b4.mono B3.size)⟩
end Go.Proofs.YtccbgdbipihoaaaGreat.Fr
namespace Go.Proofs.YtccbgdbipihoaaaGreat.Fr
open Go.RowKit Q Q.D K

def zeroF : Value := .agg #[.int .i64 0, .slice none 0 0, .slice none 0 0]
theorem FrV.parts {w : World} {v : Value} {f : RD} (h : FrV w v f) : ∃ o1 c1 o2 c2, v = .agg #[.int .i64 f.aT, .slice o1 f.loc.length c1, .slice o2 f.stk.length c2] := by
  obtain ⟨o1, c1, o2, c2, e, _⟩ := h
  exact ⟨o1, c1, o2, c2, e⟩
set_option maxRecDepth 8000 in
set_option maxHeartbeats 2000000 in
theorem push_ok (w : World) (v : Value) (f : RD) (h : FrV w v f) (most : Int) (o : Option Addr) (c : Nat) (l : List ByteArray) (hl : LAt 1 TextR w o c l) (n1 : f.loc.length ≤ 8796093022000) (n2 : f.stk.length ≤ 8796093022000) (n3 : l.length ≤ 50) (hm : (f.stk.length : Int) + l.length ≤ most) :
    Calls Tryz.prog 22 #[v, .int .i64 most, .slice o l.length c] w fun e w' => ∃ v', e = .returned (.tuple #[v', .int .i64 0]) ∧ OwnF w' w.heap.size v' ⟨f.aT, f.loc, f.stk ++ l⟩ ∧ Below w.heap.size w w' := by
  obtain ⟨o1, c1, o2, c2, rfl, k1, k2⟩ := h
  obtain ⟨aT, loc, stk⟩ := f
  simp only at *
  have hm' : ¬ (stk.length : Int) + l.length > most := by omega
  have B2 : Below w.heap.size w ((w.alloc (.cells #[.int .i64 aT, .slice o1 loc.length c1, .slice o2 stk.length c2] 25)).alloc (.cells #[.int .i64 0, .slice none 0 0, .slice none 0 0] 25)) := ((Below.refl _ w).alloc (Nat.le_refl _) _).alloc (by simp) _
  have X2 := (Blk.new w #[.int .i64 aT, .slice o1 loc.length c1, .slice o2 stk.length c2] 25).alloc (.cells #[.int .i64 0, .slice none 0 0, .slice none 0 0] 25)
  have Y2 := Blk.new (w.alloc (.cells #[.int .i64 aT, .slice o1 loc.length c1, .slice o2 stk.length c2] 25)) #[.int .i64 0, .slice none 0 0, .slice none 0 0] 25
  rw [World.size_alloc] at Y2
  have hz2 : ((w.alloc (.cells #[.int .i64 aT, .slice o1 loc.length c1, .slice o2 stk.length c2] 25)).alloc (.cells #[.int .i64 0, .slice none 0 0, .slice none 0 0] 25)).heap.size = w.heap.size + 1 + 1 := by simp
  have k1' := D.hidIt (k1.below B2 (fun _ _ h => h))
  have K2 := lists2 (k2.below B2 (fun _ _ h => h)) (hl.below B2 (fun _ _ h => h))
  have B3 := B2.trans ((balloc _ (.cells #[.slice o2 stk.length c2, .slice o l.length c] 23)).mono B2.size)
  have HM := D.hidIt (made_any _ aT o1 c1 loc _ _ [stk, l] (k1.below B3 (fun _ _ h => h)) K2 (by omega) (by simp; omega))
  rw [hz2, show [stk, l].length = 2 from rfl, show [stk, l].flatten = stk ++ l by simp] at HM
  have Y3 := D.hidIt (Y2.alloc (.cells #[.slice o2 stk.length c2, .slice o l.length c] 23))
  have HB3 := D.hidIt B3
  clear K2 k1 k2 hl hz2 B2 B3 X2 Y2 k1'
  go_enter Tryz.func22, Tryz.ntmps22
  go_wp2_with fail
  refine HM.out.mono ?_
  rintro e w4 ⟨v4, rfl, of4, b4⟩
  have Y4 := Y3.out.below b4
  have B4 := HB3.out.trans (b4.mono HB3.out.size)
  have hsz := HB3.out.size
  obtain ⟨v1, v2, m, rfl, ow1, ow2, hm1, hm2, hk⟩ := of4
  obtain ⟨a1, p1, rfl⟩ := own_slice ow1
  obtain ⟨a2, p2, rfl⟩ := own_slice ow2
  have O1 := D.hidIt ow1
  have O2 := D.hidIt ow2
  have HK := D.hidIt hk
  clear HM Y3 HB3 ow1 ow2 hk b4
  simp only at *
  obtain ⟨N, hN⟩ : ∃ N, N = (stk ++ l).length := ⟨_, rfl⟩
  rw [← hN] at O2 ⊢
  have HN := D.hidIt hN
  clear hN
  go_wp2_with (refine wpList_store_row rfl 25 _ _ rfl (w.heap.size + 1) #[.int .i64 aT, .slice a1 loc.length p1, .slice a2 N p2] rfl rfl 25 _ Y4 (by kernel_rfl) rfl (by simp [Value.oneCell']) ?_)
  refine bodyPost_ret (results_rowb rfl _ _ (w.heap.size + 1) 25 _ (0, 0) _ rfl (setRow_heap _ _ _ _ _ _ Y4) Tryz.underlying25 rfl (by kernel_rfl)) rfl ?_
  refine ⟨_, rfl, ⟨_, _, m, rfl, (OwnT.other O1.out Y4 (by decide) _).mono hsz, OwnT.other O2.out Y4 (by decide) _, by omega, by simpa [World.setRow] using hm2, HK.out⟩, below_setRow B4 (by omega) _⟩
end Go.Proofs.YtccbgdbipihoaaaGreat.Fr
