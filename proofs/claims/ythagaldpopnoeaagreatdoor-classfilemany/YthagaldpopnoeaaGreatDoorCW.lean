/- Parts of a class, written: bytes, pairs, flags, and lists by the function that writes one. -/
import Derived.Test.YthagaldpopnoeaaGreatDoorYE
import Derived.Test.YthagaldpopnoeaaGreatDoorYF
namespace Go.Proofs.YthagaldpopnoeaaGreatDoor
open Go.RowKit D

/-- A writer, made behind the world w0, that has written l; what lay in w0 lies still. -/
def WR (w0 : World) (pw : Nat) (w : World) (l : List Int) : Prop := (∃ v, IsW w0.heap.size pw w v l) ∧ w0.heap.size ≤ pw ∧ Below w0.heap.size w0 w ∧ Tabs w0 ∧ 2 ≤ w0.heap.size
theorem WR.bel {w0 w : World} {pw : Nat} {l : List Int} (h : WR w0 pw w l) : Below w0.heap.size w0 w := h.2.2.1
theorem WR.below {w0 w w' : World} {pw : Nat} {l : List Int} (h : WR w0 pw w l) (hb : Below w.heap.size w w') : WR w0 pw w' l := by
  obtain ⟨⟨v, hI⟩, h1, h2, h3, h4⟩ := h
  exact ⟨⟨v, hI.below hb⟩, h1, next h2 hb, h3, h4⟩
theorem WR.step {w0 w w' : World} {pw : Nat} {l l' : List Int} {v v' : Value} (h : WR w0 pw w l) (hI : IsW w0.heap.size pw w v l) (hI' : IsW w0.heap.size pw w' v' l') (st : WStep pw v w v' w') : WR w0 pw w' l' := by
  obtain ⟨_, h1, h2, h3, h4⟩ := h
  refine ⟨⟨v', hI'⟩, h1, h2.trans ⟨st.os, st.tape, st.output, st.size, fun k hk => st.block k (Nat.lt_of_lt_of_le hk h2.size) (by omega) ?_⟩, h3, h4⟩
  intro e
  have := (hI.own.lt k e.symm).1
  omega
theorem WR.tabs {w0 w : World} {pw : Nat} {l : List Int} (h : WR w0 pw w l) : Tabs w := h.2.2.2.1.below h.bel
theorem WR.lt {w0 w : World} {pw : Nat} {l : List Int} (h : WR w0 pw w l) : pw < w.heap.size := by obtain ⟨v, hI⟩ := h.1; exact hI.lt
/-- A block that is none of the writer's. -/
def Free (pw : Nat) (w : World) (k : Nat) : Prop := k < w.heap.size ∧ k ≠ pw ∧ ∀ v, w.heap[pw]? = some (.cells #[v] 137 (0, 0)) → some k ≠ v.ownBlock
/-- What is none of the writer's stands. -/
def WS (pw : Nat) (w w' : World) : Prop := ∀ k, Free pw w k → w'.heap[k]? = w.heap[k]? ∧ Free pw w' k
theorem WS.trans {pw : Nat} {a b c : World} (h : WS pw a b) (k : WS pw b c) : WS pw a c := fun i hi => ⟨(k i (h i hi).2).1.trans (h i hi).1, (k i (h i hi).2).2⟩
theorem WS.of_below {pw : Nat} {w w' : World} (hp : pw < w.heap.size) (h : Below w.heap.size w w') : WS pw w w' := fun k hk =>
  ⟨h.block k hk.1, Nat.lt_of_lt_of_le hk.1 h.size, hk.2.1, fun v hv => hk.2.2 v (by rw [← h.block pw hp]; exact hv)⟩
theorem WS.of_step {B pw : Nat} {w w' : World} {l l' : List Int} {v v' : Value} (hI : IsW B pw w v l) (hI' : IsW B pw w' v' l') (st : WStep pw v w v' w') : WS pw w w' := fun k hk => by
  have hne := hk.2.2 v hI.at_
  refine ⟨st.block k hk.1 hk.2.1 hne, Nat.lt_of_lt_of_le hk.1 st.size, hk.2.1, fun u hu => ?_⟩
  have e : u = v' := by rw [hI'.at_] at hu; cases hu; rfl
  subst e
  rcases st.moved with e | ⟨g, e, hg⟩
  · rw [e]; exact hne
  · rw [e]; intro e2; cases e2; have := hk.1; omega
/-- A box of one's own: it lies there, and it is none of the writer's. -/
def Keeps (pw k : Nat) (o : Obj) (w : World) : Prop := w.heap[k]? = some o ∧ Free pw w k
theorem Keeps.step {pw k : Nat} {o : Obj} {w w' : World} (h : Keeps pw k o w) (s : WS pw w w') : Keeps pw k o w' := ⟨(s k h.2).1.trans h.1, (s k h.2).2⟩
theorem Keeps.new {w0 w : World} {pw : Nat} {l : List Int} (h : WR w0 pw w l) (o : Obj) : Keeps pw w.heap.size o (w.alloc o) := by
  obtain ⟨v, hI⟩ := h.1
  have hlt := hI.lt
  refine ⟨heap_alloc_new _ _, by simp, by omega, fun u hu => ?_⟩
  rw [Below.heap_alloc w o pw hlt, hI.at_] at hu
  have e : u = v := by cases hu; rfl
  subst e
  intro e
  have := (hI.own.lt _ e.symm).2
  omega
def ptr (pw : Nat) : Value := .pointer (some ⟨pw, 0, none⟩)
def wv (pw : Nat) : Value := .agg #[.pointer (some ⟨pw, 0, none⟩)]

/-! The writer's own functions, over WR. -/
theorem wr_num (w0 : World) (pw : Nat) (l : List Int) (n : Int) (k : Nat) (hk : (min (max (k : Int) 1) 8).toNat = k) (w : World) (h : WR w0 pw w l) (hlen : l.length ≤ 137438953472) :
    Calls Tryz.prog 130 #[ptr pw, .int .i64 n, .int .i64 (k : Int)] w fun e w' => e = .returned (.tuple #[]) ∧ WR w0 pw w' (l ++ be n k) ∧ WS pw w w' := by
  obtain ⟨v, hI⟩ := h.1
  refine (wnumK _ pw v l n k hk w hI h.bel.size (by omega)).mono ?_
  rintro e w' ⟨rfl, v', hI', st⟩
  exact ⟨rfl, h.step hI hI' st, WS.of_step hI hI' st⟩
theorem wr_text (w0 : World) (pw : Nat) (l : List Int) (s : ByteArray) (w : World) (h : WR w0 pw w l) (hlen : l.length ≤ 137438953472) (hs : s.size ≤ 17179869184) :
    Calls Tryz.prog 90 #[ptr pw, .string s] w fun e w' => e = .returned (.tuple #[]) ∧ WR w0 pw w' (l ++ wtextZ s) ∧ WS pw w w' := by
  obtain ⟨v, hI⟩ := h.1
  refine (wtext_any _ pw v l s w hI h.bel.size (by omega) h.tabs hs).mono ?_
  rintro e w' ⟨rfl, v', hI', st⟩
  exact ⟨rfl, h.step hI hI' st, WS.of_step hI hI' st⟩
theorem wr_bytes (w0 : World) (pw : Nat) (l lb : List Int) (vb : Value) (w : World) (h : WR w0 pw w l) (hv : View w vb lb) (hlen : l.length + lb.length ≤ 137438953472) :
    Calls Tryz.prog 88 #[ptr pw, vb] w fun e w' => e = .returned (.tuple #[]) ∧ WR w0 pw w' (l ++ lb) ∧ WS pw w w' := by
  obtain ⟨v, hI⟩ := h.1
  refine (wbytes_any _ pw v vb l lb w hI hv h.bel.size (by omega)).mono ?_
  rintro e w' ⟨rfl, v', hI', st⟩
  exact ⟨rfl, h.step hI hI' st, WS.of_step hI hI' st⟩
set_option maxRecDepth 8000 in
set_option maxHeartbeats 1000000 in
theorem wr_byte (w0 : World) (pw : Nat) (l : List Int) (n : Int) (w : World) (h : WR w0 pw w l) (hlen : l.length ≤ 137438953472) :
    Calls Tryz.prog 133 #[wv pw, .int .i64 n] w fun e w' => e = .returned (.tuple #[]) ∧ WR w0 pw w' (l ++ be n 1) ∧ WS pw w w' := by
  have hN := fun o => D.hidIt (wr_num w0 pw l n 1 (by decide) _ (h.below (balloc w o)) hlen)
  unfold wv ptr at *
  go_enter Tryz.func133, Tryz.ntmps133
  go_wp2_with fail
  refine (hN _).out.mono ?_
  rintro e w' ⟨rfl, hw⟩
  have HW := D.hidIt hw
  clear hw
  go_wp2
  go_end0
  exact ⟨rfl, HW.out.1, (WS.of_below h.lt (balloc _ _)).trans HW.out.2⟩
set_option maxRecDepth 8000 in
set_option maxHeartbeats 1000000 in
theorem wr_pair (w0 : World) (pw : Nat) (l : List Int) (n : Int) (w : World) (h : WR w0 pw w l) (hlen : l.length ≤ 137438953472) :
    Calls Tryz.prog 135 #[wv pw, .int .i64 n] w fun e w' => e = .returned (.tuple #[]) ∧ WR w0 pw w' (l ++ be n 2) ∧ WS pw w w' := by
  have hN := fun o => D.hidIt (wr_num w0 pw l n 2 (by decide) _ (h.below (balloc w o)) hlen)
  unfold wv ptr at *
  go_enter Tryz.func135, Tryz.ntmps135
  go_wp2_with fail
  refine (hN _).out.mono ?_
  rintro e w' ⟨rfl, hw⟩
  have HW := D.hidIt hw
  clear hw
  go_wp2
  go_end0
  exact ⟨rfl, HW.out.1, (WS.of_below h.lt (balloc _ _)).trans HW.out.2⟩
set_option maxRecDepth 8000 in
set_option maxHeartbeats 1000000 in
theorem flag_any (b : Bool) (n : Int) (w : World) : Calls Tryz.prog 134 #[.bool b, .int .i64 n] w fun e w' => e = .returned (.int .i64 (if b then n else 0)) ∧ w' = w := by
  cases b <;>
  · go_enter Tryz.func134, Tryz.ntmps134
    go_wp2
    go_ret
    exact ⟨rfl, rfl⟩

/-- What writes one. -/
def OneS (w0 : World) (pw : Nat) (out : ByteArray → List Int) (x : ByteArray) : Prop :=
  ∀ (W : World) (L : List Int), TextR w0 [.string x] x → WR w0 pw W L → (L ++ out x).length ≤ 137438953472 → Calls Tryz.prog 90 #[ptr pw, .string x] W fun e w' => e = .returned (.tuple #[]) ∧ WR w0 pw w' (L ++ out x) ∧ WS pw W w'
set_option maxRecDepth 8000 in
set_option maxHeartbeats 2000000 in
theorem wr_listS (w0 : World) (pw : Nat) (out : ByteArray → List Int) (xs : List ByteArray) (ao : Option Addr) (c : Nat) (hL : LAt 1 TextR w0 ao c xs) (h1 : ∀ x ∈ xs, OneS w0 pw out x) (l : List Int) (w : World) (h : WR w0 pw w l) (hlen : (l ++ (be (xs.length : Nat) 1 ++ xs.flatMap out)).length ≤ 137438953472) :
    Calls Tryz.prog 170 #[wv pw, .slice ao xs.length c, .func (.func 90) #[ptr pw] #[]] w fun e w' => e = .returned (.tuple #[]) ∧ WR w0 pw w' (l ++ (be (xs.length : Nat) 1 ++ xs.flatMap out)) ∧ WS pw w w' := by
  have hB := fun o => D.hidIt (wr_byte w0 pw l (xs.length : Nat) _ (h.below (balloc w o)) (by rw [List.length_append] at hlen; omega))
  have rowX : ∀ (W : World) (hW : Below w0.heap.size w0 W) (j : Nat) (x : ByteArray), xs[j]? = some x → ∃ b off, ao = some ⟨b, off, none⟩ ∧ TextR w0 [.string x] x ∧ W.cell? ⟨b, off + j, none⟩ = some (.string x) := by
    intro W hW j x hx
    obtain ⟨b, off, r, e, hr, hc⟩ := hL.row hx
    obtain ⟨rfl, _⟩ := id hr
    replace hc := fun i v hi => cell_later hW (hc i v hi)
    exact ⟨b, off, e, hr, by have := hc 0 _ rfl; simpa using this⟩
  have ROWX := D.hidIt rowX
  have H1 := D.hidIt h1
  obtain ⟨ln1, ln2⟩ := hL.lens
  have HLEN := D.hidIt hlen
  clear rowX h1 hlen hL
  have N := D.hidIt (Eq.refl xs.length)
  revert N
  generalize hn : xs.length = n at *
  intro _
  have HN := D.hidIt hn
  clear hn
  unfold wv ptr at *
  go_enter Tryz.func170, Tryz.ntmps170
  go_wp2_with fail
  refine (hB _).out.mono ?_
  rintro e w1 ⟨rfl, hw1⟩
  have HW1 := D.hidIt hw1
  have hlt := h.lt
  have HS1 := D.hidIt ((WS.of_below hlt (balloc w (.cells #[.pointer (some ⟨pw, 0, none⟩)] 92))).trans HW1.out.2)
  clear hw1 hB h hlt
  go_wp2
  go_loopw [14] (fun i wr => ∃ kk : Nat, i = .int .i64 (kk : Int) ∧ kk ≤ n ∧ Hid (WR w0 pw wr (l ++ be (n : Nat) 1 ++ (xs.take kk).flatMap out) ∧ WS pw w wr)) (fun i _ => n - (intOf i).toNat)
  case atStart => exact ⟨0, rfl, Nat.zero_le _, by show _ ∧ _; exact ⟨by simpa using HW1.out.1, HS1.out⟩⟩
  case round =>
    obtain ⟨kk, rfl, hk, HW⟩ := hrel
    by_cases hlt : kk < n
    · have hlt' : (kk : Int) < (n : Int) := by omega
      obtain ⟨x, hx⟩ : ∃ x, xs[kk]? = some x := ⟨_, List.getElem?_eq_getElem (by rw [HN.out]; exact hlt)⟩
      have HX := D.hidIt hx
      have HT : Hid ((xs.take (kk + 1)).flatMap out = (xs.take kk).flatMap out ++ out x) := by
        show _ = _
        rw [List.take_add_one, hx]; simp
      have hone := H1.out x (List.mem_of_getElem? hx)
      have HLE : Hid ((l ++ be (n : Nat) 1 ++ (xs.take kk).flatMap out ++ out x).length ≤ 137438953472) := by
        show _ ≤ _
        have h2 := HLEN.out
        have h3 : ((xs.take (kk + 1)).flatMap out).length ≤ (xs.flatMap out).length := by
          conv => rhs; rw [← List.take_append_drop (kk + 1) xs, List.flatMap_append, List.length_append]
          omega
        rw [HT.out, List.length_append] at h3
        simp only [List.length_append] at h2 h3 ⊢
        omega
      clear hx
      obtain ⟨b, off, rfl, hR, r0⟩ := ROWX.out wr HW.out.1.bel kk x HX.out
      have hcall := fun W (hW : WR w0 pw W (l ++ be (n : Nat) 1 ++ (xs.take kk).flatMap out)) => D.hidIt (hone W _ hR hW HLE.out)
      clear hone hR
      unfold ptr at hcall
      generalize out x = ox at *
      go_wp2_with fail
      refine (hcall _ HW.out.1).out.mono ?_
      rintro e w2 ⟨rfl, hw2⟩
      have HW2 := D.hidIt hw2
      have HS2 := D.hidIt (HW.out.2.trans hw2.2)
      clear hw2 hcall r0
      go_wp2
      refine ⟨⟨kk + 1, by go_num, by omega, ?_⟩, by simp [intOf]; omega⟩
      show _ ∧ _
      rw [HT.out, ← List.append_assoc]
      exact ⟨HW2.out.1, HS2.out⟩
    · have hlt' : ¬ (kk : Int) < (n : Int) := by omega
      have HE := HW.out.1
      have HS := D.hidIt HW.out.2
      rw [List.take_of_length_le (by rw [HN.out]; omega), List.append_assoc] at HE
      have HE' := D.hidIt HE
      clear HE HW
      go_wp2
      go_end0
      exact ⟨rfl, HE'.out, HS.out⟩

/-- What writes one. -/
def OneF (w0 : World) (pw : Nat) (out : FD → List Int) (x : FD) : Prop :=
  ∀ (W : World) (L : List Int), FieldR w0 [.string x.nm, .string x.ds, .bool x.st] x → WR w0 pw W L → (L ++ out x).length ≤ 137438953472 → Calls Tryz.prog 92 #[wv pw, .agg #[.string x.nm, .string x.ds, .bool x.st]] W fun e w' => e = .returned (.tuple #[]) ∧ WR w0 pw w' (L ++ out x) ∧ WS pw W w'
set_option maxRecDepth 8000 in
set_option maxHeartbeats 2000000 in
theorem wr_listF (w0 : World) (pw : Nat) (out : FD → List Int) (xs : List FD) (ao : Option Addr) (c : Nat) (hL : LAt 3 FieldR w0 ao c xs) (h1 : ∀ x ∈ xs, OneF w0 pw out x) (l : List Int) (w : World) (h : WR w0 pw w l) (hlen : (l ++ (be (xs.length : Nat) 1 ++ xs.flatMap out)).length ≤ 137438953472) :
    Calls Tryz.prog 91 #[wv pw, .slice ao xs.length c, .func (.func 92) #[wv pw] #[]] w fun e w' => e = .returned (.tuple #[]) ∧ WR w0 pw w' (l ++ (be (xs.length : Nat) 1 ++ xs.flatMap out)) ∧ WS pw w w' := by
  have hB := fun o => D.hidIt (wr_byte w0 pw l (xs.length : Nat) _ (h.below (balloc w o)) (by rw [List.length_append] at hlen; omega))
  have rowX : ∀ (W : World) (hW : Below w0.heap.size w0 W) (j : Nat) (x : FD), xs[j]? = some x → ∃ b off, ao = some ⟨b, off, none⟩ ∧ FieldR w0 [.string x.nm, .string x.ds, .bool x.st] x ∧ W.cell? ⟨b, off + j * 3, none⟩ = some (.string x.nm) ∧ W.cell? ⟨b, off + j * 3 + 1, none⟩ = some (.string x.ds) ∧ W.cell? ⟨b, off + j * 3 + 2, none⟩ = some (.bool x.st) := by
    intro W hW j x hx
    obtain ⟨b, off, r, e, hr, hc⟩ := hL.row hx
    obtain ⟨rfl, _, _⟩ := id hr
    replace hc := fun i v hi => cell_later hW (hc i v hi)
    exact ⟨b, off, e, hr, hc 0 _ rfl, hc 1 _ rfl, hc 2 _ rfl⟩
  have ROWX := D.hidIt rowX
  have H1 := D.hidIt h1
  obtain ⟨ln1, ln2⟩ := hL.lens
  have HLEN := D.hidIt hlen
  clear rowX h1 hlen hL
  have N := D.hidIt (Eq.refl xs.length)
  revert N
  generalize hn : xs.length = n at *
  intro _
  have HN := D.hidIt hn
  clear hn
  unfold wv at *
  go_enter Tryz.func91, Tryz.ntmps91
  go_wp2_with fail
  refine (hB _).out.mono ?_
  rintro e w1 ⟨rfl, hw1⟩
  have HW1 := D.hidIt hw1
  have hlt := h.lt
  have HS1 := D.hidIt ((WS.of_below hlt (balloc w (.cells #[.pointer (some ⟨pw, 0, none⟩)] 92))).trans HW1.out.2)
  clear hw1 hB h hlt
  go_wp2
  go_loopw [14] (fun i wr => ∃ kk : Nat, i = .int .i64 (kk : Int) ∧ kk ≤ n ∧ Hid (WR w0 pw wr (l ++ be (n : Nat) 1 ++ (xs.take kk).flatMap out) ∧ WS pw w wr)) (fun i _ => n - (intOf i).toNat)
  case atStart => exact ⟨0, rfl, Nat.zero_le _, by show _ ∧ _; exact ⟨by simpa using HW1.out.1, HS1.out⟩⟩
  case round =>
    obtain ⟨kk, rfl, hk, HW⟩ := hrel
    by_cases hlt : kk < n
    · have hlt' : (kk : Int) < (n : Int) := by omega
      obtain ⟨x, hx⟩ : ∃ x, xs[kk]? = some x := ⟨_, List.getElem?_eq_getElem (by rw [HN.out]; exact hlt)⟩
      have HX := D.hidIt hx
      have HT : Hid ((xs.take (kk + 1)).flatMap out = (xs.take kk).flatMap out ++ out x) := by
        show _ = _
        rw [List.take_add_one, hx]; simp
      have hone := H1.out x (List.mem_of_getElem? hx)
      have HLE : Hid ((l ++ be (n : Nat) 1 ++ (xs.take kk).flatMap out ++ out x).length ≤ 137438953472) := by
        show _ ≤ _
        have h2 := HLEN.out
        have h3 : ((xs.take (kk + 1)).flatMap out).length ≤ (xs.flatMap out).length := by
          conv => rhs; rw [← List.take_append_drop (kk + 1) xs, List.flatMap_append, List.length_append]
          omega
        rw [HT.out, List.length_append] at h3
        simp only [List.length_append] at h2 h3 ⊢
        omega
      clear hx
      obtain ⟨b, off, rfl, hR, r0, r1, r2⟩ := ROWX.out wr HW.out.1.bel kk x HX.out
      have hcall := fun W (hW : WR w0 pw W (l ++ be (n : Nat) 1 ++ (xs.take kk).flatMap out)) => D.hidIt (hone W _ hR hW HLE.out)
      clear hone hR
      unfold wv at hcall
      generalize out x = ox at *
      obtain ⟨x1, x2, x3⟩ := x
      simp only at *
      go_wp2_with fail
      refine (hcall _ (HW.out.1.below (balloc _ _))).out.mono ?_
      rintro e w2 ⟨rfl, hw2⟩
      have HW2 := D.hidIt hw2
      have HS2 := D.hidIt (HW.out.2.trans ((WS.of_below HW.out.1.lt (balloc _ _)).trans hw2.2))
      clear hw2 hcall r0 r1 r2
      go_wp2
      refine ⟨⟨kk + 1, by go_num, by omega, ?_⟩, by simp [intOf]; omega⟩
      show _ ∧ _
      rw [HT.out, ← List.append_assoc]
      exact ⟨HW2.out.1, HS2.out⟩
    · have hlt' : ¬ (kk : Int) < (n : Int) := by omega
      have HE := HW.out.1
      have HS := D.hidIt HW.out.2
      rw [List.take_of_length_le (by rw [HN.out]; omega), List.append_assoc] at HE
      have HE' := D.hidIt HE
      clear HE HW
      go_wp2
      go_end0
      exact ⟨rfl, HE'.out, HS.out⟩

/-- What writes one. -/
def OneM (w0 : World) (pw : Nat) (out : MD → List Int) (x : MD) : Prop :=
  ∀ (W : World) (L : List Int) (o1 : Option Addr) (c1 : Nat) (o2 : Option Addr) (c2 : Nat) (o3 : Option Addr) (c3 : Nat), MethR w0 [.string x.nm, .string x.ds, .bool x.st, .bool x.nat, .int .i64 x.stk, .int .i64 x.loc, .slice o1 x.code.length c1, .slice o2 x.hs.length c2, .slice o3 x.rs.length c3] x → WR w0 pw W L → (L ++ out x).length ≤ 137438953472 → Calls Tryz.prog 94 #[wv pw, .agg #[.string x.nm, .string x.ds, .bool x.st, .bool x.nat, .int .i64 x.stk, .int .i64 x.loc, .slice o1 x.code.length c1, .slice o2 x.hs.length c2, .slice o3 x.rs.length c3]] W fun e w' => e = .returned (.tuple #[]) ∧ WR w0 pw w' (L ++ out x) ∧ WS pw W w'
set_option maxRecDepth 8000 in
set_option maxHeartbeats 2000000 in
theorem wr_listM (w0 : World) (pw : Nat) (out : MD → List Int) (xs : List MD) (ao : Option Addr) (c : Nat) (hL : LAt 9 MethR w0 ao c xs) (h1 : ∀ x ∈ xs, OneM w0 pw out x) (l : List Int) (w : World) (h : WR w0 pw w l) (hlen : (l ++ (be (xs.length : Nat) 1 ++ xs.flatMap out)).length ≤ 137438953472) :
    Calls Tryz.prog 93 #[wv pw, .slice ao xs.length c, .func (.func 94) #[wv pw] #[]] w fun e w' => e = .returned (.tuple #[]) ∧ WR w0 pw w' (l ++ (be (xs.length : Nat) 1 ++ xs.flatMap out)) ∧ WS pw w w' := by
  have hB := fun o => D.hidIt (wr_byte w0 pw l (xs.length : Nat) _ (h.below (balloc w o)) (by rw [List.length_append] at hlen; omega))
  have rowX : ∀ (W : World) (hW : Below w0.heap.size w0 W) (j : Nat) (x : MD), xs[j]? = some x → ∃ b off o1 c1 o2 c2 o3 c3, ao = some ⟨b, off, none⟩ ∧ MethR w0 [.string x.nm, .string x.ds, .bool x.st, .bool x.nat, .int .i64 x.stk, .int .i64 x.loc, .slice o1 x.code.length c1, .slice o2 x.hs.length c2, .slice o3 x.rs.length c3] x ∧ W.cell? ⟨b, off + j * 9, none⟩ = some (.string x.nm) ∧ W.cell? ⟨b, off + j * 9 + 1, none⟩ = some (.string x.ds) ∧ W.cell? ⟨b, off + j * 9 + 2, none⟩ = some (.bool x.st) ∧ W.cell? ⟨b, off + j * 9 + 3, none⟩ = some (.bool x.nat) ∧ W.cell? ⟨b, off + j * 9 + 4, none⟩ = some (.int .i64 x.stk) ∧ W.cell? ⟨b, off + j * 9 + 5, none⟩ = some (.int .i64 x.loc) ∧ W.cell? ⟨b, off + j * 9 + 6, none⟩ = some (.slice o1 x.code.length c1) ∧ W.cell? ⟨b, off + j * 9 + 7, none⟩ = some (.slice o2 x.hs.length c2) ∧ W.cell? ⟨b, off + j * 9 + 8, none⟩ = some (.slice o3 x.rs.length c3) := by
    intro W hW j x hx
    obtain ⟨b, off, r, e, hr, hc⟩ := hL.row hx
    obtain ⟨o1, c1, o2, c2, o3, c3, rfl, _, _, _, _, _⟩ := id hr
    replace hc := fun i v hi => cell_later hW (hc i v hi)
    exact ⟨b, off, o1, c1, o2, c2, o3, c3, e, hr, hc 0 _ rfl, hc 1 _ rfl, hc 2 _ rfl, hc 3 _ rfl, hc 4 _ rfl, hc 5 _ rfl, hc 6 _ rfl, hc 7 _ rfl, hc 8 _ rfl⟩
  have ROWX := D.hidIt rowX
  have H1 := D.hidIt h1
  obtain ⟨ln1, ln2⟩ := hL.lens
  have HLEN := D.hidIt hlen
  clear rowX h1 hlen hL
  have N := D.hidIt (Eq.refl xs.length)
  revert N
  generalize hn : xs.length = n at *
  intro _
  have HN := D.hidIt hn
  clear hn
  unfold wv at *
  go_enter Tryz.func93, Tryz.ntmps93
  go_wp2_with fail
  refine (hB _).out.mono ?_
  rintro e w1 ⟨rfl, hw1⟩
  have HW1 := D.hidIt hw1
  have hlt := h.lt
  have HS1 := D.hidIt ((WS.of_below hlt (balloc w (.cells #[.pointer (some ⟨pw, 0, none⟩)] 92))).trans HW1.out.2)
  clear hw1 hB h hlt
  go_wp2
  go_loopw [14] (fun i wr => ∃ kk : Nat, i = .int .i64 (kk : Int) ∧ kk ≤ n ∧ Hid (WR w0 pw wr (l ++ be (n : Nat) 1 ++ (xs.take kk).flatMap out) ∧ WS pw w wr)) (fun i _ => n - (intOf i).toNat)
  case atStart => exact ⟨0, rfl, Nat.zero_le _, by show _ ∧ _; exact ⟨by simpa using HW1.out.1, HS1.out⟩⟩
  case round =>
    obtain ⟨kk, rfl, hk, HW⟩ := hrel
    by_cases hlt : kk < n
    · have hlt' : (kk : Int) < (n : Int) := by omega
      obtain ⟨x, hx⟩ : ∃ x, xs[kk]? = some x := ⟨_, List.getElem?_eq_getElem (by rw [HN.out]; exact hlt)⟩
      have HX := D.hidIt hx
      have HT : Hid ((xs.take (kk + 1)).flatMap out = (xs.take kk).flatMap out ++ out x) := by
        show _ = _
        rw [List.take_add_one, hx]; simp
      have hone := H1.out x (List.mem_of_getElem? hx)
      have HLE : Hid ((l ++ be (n : Nat) 1 ++ (xs.take kk).flatMap out ++ out x).length ≤ 137438953472) := by
        show _ ≤ _
        have h2 := HLEN.out
        have h3 : ((xs.take (kk + 1)).flatMap out).length ≤ (xs.flatMap out).length := by
          conv => rhs; rw [← List.take_append_drop (kk + 1) xs, List.flatMap_append, List.length_append]
          omega
        rw [HT.out, List.length_append] at h3
        simp only [List.length_append] at h2 h3 ⊢
        omega
      clear hx
      obtain ⟨b, off, o1, c1, o2, c2, o3, c3, rfl, hR, r0, r1, r2, r3, r4, r5, r6, r7, r8⟩ := ROWX.out wr HW.out.1.bel kk x HX.out
      have hcall := fun W (hW : WR w0 pw W (l ++ be (n : Nat) 1 ++ (xs.take kk).flatMap out)) => D.hidIt (hone W _ o1 c1 o2 c2 o3 c3 hR hW HLE.out)
      clear hone hR
      unfold wv at hcall
      generalize out x = ox at *
      obtain ⟨x1, x2, x3, x4, x5, x6, x7, x8, x9⟩ := x
      simp only at *
      generalize x7.length = l2 at *
      generalize x8.length = l3 at *
      generalize x9.length = l4 at *
      go_wp2_with fail
      refine (hcall _ (HW.out.1.below (balloc _ _))).out.mono ?_
      rintro e w2 ⟨rfl, hw2⟩
      have HW2 := D.hidIt hw2
      have HS2 := D.hidIt (HW.out.2.trans ((WS.of_below HW.out.1.lt (balloc _ _)).trans hw2.2))
      clear hw2 hcall r0 r1 r2 r3 r4 r5 r6 r7 r8
      go_wp2
      refine ⟨⟨kk + 1, by go_num, by omega, ?_⟩, by simp [intOf]; omega⟩
      show _ ∧ _
      rw [HT.out, ← List.append_assoc]
      exact ⟨HW2.out.1, HS2.out⟩
    · have hlt' : ¬ (kk : Int) < (n : Int) := by omega
      have HE := HW.out.1
      have HS := D.hidIt HW.out.2
      rw [List.take_of_length_le (by rw [HN.out]; omega), List.append_assoc] at HE
      have HE' := D.hidIt HE
      clear HE HW
      go_wp2
      go_end0
      exact ⟨rfl, HE'.out, HS.out⟩

/-- What writes one. -/
def OneH (w0 : World) (pw : Nat) (out : HD → List Int) (x : HD) : Prop :=
  ∀ (W : World) (L : List Int), HandR w0 [.int .i64 x.fr, .int .i64 x.tO, .int .i64 x.aT, .string x.ty] x → WR w0 pw W L → (L ++ out x).length ≤ 137438953472 → Calls Tryz.prog 137 #[wv pw, .agg #[.int .i64 x.fr, .int .i64 x.tO, .int .i64 x.aT, .string x.ty]] W fun e w' => e = .returned (.tuple #[]) ∧ WR w0 pw w' (L ++ out x) ∧ WS pw W w'
set_option maxRecDepth 8000 in
set_option maxHeartbeats 2000000 in
theorem wr_listH (w0 : World) (pw : Nat) (out : HD → List Int) (xs : List HD) (ao : Option Addr) (c : Nat) (hL : LAt 4 HandR w0 ao c xs) (h1 : ∀ x ∈ xs, OneH w0 pw out x) (l : List Int) (w : World) (h : WR w0 pw w l) (hlen : (l ++ (be (xs.length : Nat) 1 ++ xs.flatMap out)).length ≤ 137438953472) :
    Calls Tryz.prog 136 #[wv pw, .slice ao xs.length c, .func (.func 137) #[wv pw] #[]] w fun e w' => e = .returned (.tuple #[]) ∧ WR w0 pw w' (l ++ (be (xs.length : Nat) 1 ++ xs.flatMap out)) ∧ WS pw w w' := by
  have hB := fun o => D.hidIt (wr_byte w0 pw l (xs.length : Nat) _ (h.below (balloc w o)) (by rw [List.length_append] at hlen; omega))
  have rowX : ∀ (W : World) (hW : Below w0.heap.size w0 W) (j : Nat) (x : HD), xs[j]? = some x → ∃ b off, ao = some ⟨b, off, none⟩ ∧ HandR w0 [.int .i64 x.fr, .int .i64 x.tO, .int .i64 x.aT, .string x.ty] x ∧ W.cell? ⟨b, off + j * 4, none⟩ = some (.int .i64 x.fr) ∧ W.cell? ⟨b, off + j * 4 + 1, none⟩ = some (.int .i64 x.tO) ∧ W.cell? ⟨b, off + j * 4 + 2, none⟩ = some (.int .i64 x.aT) ∧ W.cell? ⟨b, off + j * 4 + 3, none⟩ = some (.string x.ty) := by
    intro W hW j x hx
    obtain ⟨b, off, r, e, hr, hc⟩ := hL.row hx
    obtain ⟨rfl, _⟩ := id hr
    replace hc := fun i v hi => cell_later hW (hc i v hi)
    exact ⟨b, off, e, hr, hc 0 _ rfl, hc 1 _ rfl, hc 2 _ rfl, hc 3 _ rfl⟩
  have ROWX := D.hidIt rowX
  have H1 := D.hidIt h1
  obtain ⟨ln1, ln2⟩ := hL.lens
  have HLEN := D.hidIt hlen
  clear rowX h1 hlen hL
  have N := D.hidIt (Eq.refl xs.length)
  revert N
  generalize hn : xs.length = n at *
  intro _
  have HN := D.hidIt hn
  clear hn
  unfold wv at *
  go_enter Tryz.func136, Tryz.ntmps136
  go_wp2_with fail
  refine (hB _).out.mono ?_
  rintro e w1 ⟨rfl, hw1⟩
  have HW1 := D.hidIt hw1
  have hlt := h.lt
  have HS1 := D.hidIt ((WS.of_below hlt (balloc w (.cells #[.pointer (some ⟨pw, 0, none⟩)] 92))).trans HW1.out.2)
  clear hw1 hB h hlt
  go_wp2
  go_loopw [14] (fun i wr => ∃ kk : Nat, i = .int .i64 (kk : Int) ∧ kk ≤ n ∧ Hid (WR w0 pw wr (l ++ be (n : Nat) 1 ++ (xs.take kk).flatMap out) ∧ WS pw w wr)) (fun i _ => n - (intOf i).toNat)
  case atStart => exact ⟨0, rfl, Nat.zero_le _, by show _ ∧ _; exact ⟨by simpa using HW1.out.1, HS1.out⟩⟩
  case round =>
    obtain ⟨kk, rfl, hk, HW⟩ := hrel
    by_cases hlt : kk < n
    · have hlt' : (kk : Int) < (n : Int) := by omega
      obtain ⟨x, hx⟩ : ∃ x, xs[kk]? = some x := ⟨_, List.getElem?_eq_getElem (by rw [HN.out]; exact hlt)⟩
      have HX := D.hidIt hx
      have HT : Hid ((xs.take (kk + 1)).flatMap out = (xs.take kk).flatMap out ++ out x) := by
        show _ = _
        rw [List.take_add_one, hx]; simp
      have hone := H1.out x (List.mem_of_getElem? hx)
      have HLE : Hid ((l ++ be (n : Nat) 1 ++ (xs.take kk).flatMap out ++ out x).length ≤ 137438953472) := by
        show _ ≤ _
        have h2 := HLEN.out
        have h3 : ((xs.take (kk + 1)).flatMap out).length ≤ (xs.flatMap out).length := by
          conv => rhs; rw [← List.take_append_drop (kk + 1) xs, List.flatMap_append, List.length_append]
          omega
        rw [HT.out, List.length_append] at h3
        simp only [List.length_append] at h2 h3 ⊢
        omega
      clear hx
      obtain ⟨b, off, rfl, hR, r0, r1, r2, r3⟩ := ROWX.out wr HW.out.1.bel kk x HX.out
      have hcall := fun W (hW : WR w0 pw W (l ++ be (n : Nat) 1 ++ (xs.take kk).flatMap out)) => D.hidIt (hone W _ hR hW HLE.out)
      clear hone hR
      unfold wv at hcall
      generalize out x = ox at *
      obtain ⟨x1, x2, x3, x4⟩ := x
      simp only at *
      go_wp2_with fail
      refine (hcall _ (HW.out.1.below (balloc _ _))).out.mono ?_
      rintro e w2 ⟨rfl, hw2⟩
      have HW2 := D.hidIt hw2
      have HS2 := D.hidIt (HW.out.2.trans ((WS.of_below HW.out.1.lt (balloc _ _)).trans hw2.2))
      clear hw2 hcall r0 r1 r2 r3
      go_wp2
      refine ⟨⟨kk + 1, by go_num, by omega, ?_⟩, by simp [intOf]; omega⟩
      show _ ∧ _
      rw [HT.out, ← List.append_assoc]
      exact ⟨HW2.out.1, HS2.out⟩
    · have hlt' : ¬ (kk : Int) < (n : Int) := by omega
      have HE := HW.out.1
      have HS := D.hidIt HW.out.2
      rw [List.take_of_length_le (by rw [HN.out]; omega), List.append_assoc] at HE
      have HE' := D.hidIt HE
      clear HE HW
      go_wp2
      go_end0
      exact ⟨rfl, HE'.out, HS.out⟩

/-- What writes one. -/
def OneR (w0 : World) (pw : Nat) (out : RD → List Int) (x : RD) : Prop :=
  ∀ (W : World) (L : List Int) (o1 : Option Addr) (c1 : Nat) (o2 : Option Addr) (c2 : Nat), FrameR w0 [.int .i64 x.aT, .slice o1 x.loc.length c1, .slice o2 x.stk.length c2] x → WR w0 pw W L → (L ++ out x).length ≤ 137438953472 → Calls Tryz.prog 139 #[wv pw, .agg #[.int .i64 x.aT, .slice o1 x.loc.length c1, .slice o2 x.stk.length c2]] W fun e w' => e = .returned (.tuple #[]) ∧ WR w0 pw w' (L ++ out x) ∧ WS pw W w'
set_option maxRecDepth 8000 in
set_option maxHeartbeats 2000000 in
theorem wr_listR (w0 : World) (pw : Nat) (out : RD → List Int) (xs : List RD) (ao : Option Addr) (c : Nat) (hL : LAt 3 FrameR w0 ao c xs) (h1 : ∀ x ∈ xs, OneR w0 pw out x) (l : List Int) (w : World) (h : WR w0 pw w l) (hlen : (l ++ (be (xs.length : Nat) 1 ++ xs.flatMap out)).length ≤ 137438953472) :
    Calls Tryz.prog 138 #[wv pw, .slice ao xs.length c, .func (.func 139) #[wv pw] #[]] w fun e w' => e = .returned (.tuple #[]) ∧ WR w0 pw w' (l ++ (be (xs.length : Nat) 1 ++ xs.flatMap out)) ∧ WS pw w w' := by
  have hB := fun o => D.hidIt (wr_byte w0 pw l (xs.length : Nat) _ (h.below (balloc w o)) (by rw [List.length_append] at hlen; omega))
  have rowX : ∀ (W : World) (hW : Below w0.heap.size w0 W) (j : Nat) (x : RD), xs[j]? = some x → ∃ b off o1 c1 o2 c2, ao = some ⟨b, off, none⟩ ∧ FrameR w0 [.int .i64 x.aT, .slice o1 x.loc.length c1, .slice o2 x.stk.length c2] x ∧ W.cell? ⟨b, off + j * 3, none⟩ = some (.int .i64 x.aT) ∧ W.cell? ⟨b, off + j * 3 + 1, none⟩ = some (.slice o1 x.loc.length c1) ∧ W.cell? ⟨b, off + j * 3 + 2, none⟩ = some (.slice o2 x.stk.length c2) := by
    intro W hW j x hx
    obtain ⟨b, off, r, e, hr, hc⟩ := hL.row hx
    obtain ⟨o1, c1, o2, c2, rfl, _, _⟩ := id hr
    replace hc := fun i v hi => cell_later hW (hc i v hi)
    exact ⟨b, off, o1, c1, o2, c2, e, hr, hc 0 _ rfl, hc 1 _ rfl, hc 2 _ rfl⟩
  have ROWX := D.hidIt rowX
  have H1 := D.hidIt h1
  obtain ⟨ln1, ln2⟩ := hL.lens
  have HLEN := D.hidIt hlen
  clear rowX h1 hlen hL
  have N := D.hidIt (Eq.refl xs.length)
  revert N
  generalize hn : xs.length = n at *
  intro _
  have HN := D.hidIt hn
  clear hn
  unfold wv at *
  go_enter Tryz.func138, Tryz.ntmps138
  go_wp2_with fail
  refine (hB _).out.mono ?_
  rintro e w1 ⟨rfl, hw1⟩
  have HW1 := D.hidIt hw1
  have hlt := h.lt
  have HS1 := D.hidIt ((WS.of_below hlt (balloc w (.cells #[.pointer (some ⟨pw, 0, none⟩)] 92))).trans HW1.out.2)
  clear hw1 hB h hlt
  go_wp2
  go_loopw [14] (fun i wr => ∃ kk : Nat, i = .int .i64 (kk : Int) ∧ kk ≤ n ∧ Hid (WR w0 pw wr (l ++ be (n : Nat) 1 ++ (xs.take kk).flatMap out) ∧ WS pw w wr)) (fun i _ => n - (intOf i).toNat)
  case atStart => exact ⟨0, rfl, Nat.zero_le _, by show _ ∧ _; exact ⟨by simpa using HW1.out.1, HS1.out⟩⟩
  case round =>
    obtain ⟨kk, rfl, hk, HW⟩ := hrel
    by_cases hlt : kk < n
    · have hlt' : (kk : Int) < (n : Int) := by omega
      obtain ⟨x, hx⟩ : ∃ x, xs[kk]? = some x := ⟨_, List.getElem?_eq_getElem (by rw [HN.out]; exact hlt)⟩
      have HX := D.hidIt hx
      have HT : Hid ((xs.take (kk + 1)).flatMap out = (xs.take kk).flatMap out ++ out x) := by
        show _ = _
        rw [List.take_add_one, hx]; simp
      have hone := H1.out x (List.mem_of_getElem? hx)
      have HLE : Hid ((l ++ be (n : Nat) 1 ++ (xs.take kk).flatMap out ++ out x).length ≤ 137438953472) := by
        show _ ≤ _
        have h2 := HLEN.out
        have h3 : ((xs.take (kk + 1)).flatMap out).length ≤ (xs.flatMap out).length := by
          conv => rhs; rw [← List.take_append_drop (kk + 1) xs, List.flatMap_append, List.length_append]
          omega
        rw [HT.out, List.length_append] at h3
        simp only [List.length_append] at h2 h3 ⊢
        omega
      clear hx
      obtain ⟨b, off, o1, c1, o2, c2, rfl, hR, r0, r1, r2⟩ := ROWX.out wr HW.out.1.bel kk x HX.out
      have hcall := fun W (hW : WR w0 pw W (l ++ be (n : Nat) 1 ++ (xs.take kk).flatMap out)) => D.hidIt (hone W _ o1 c1 o2 c2 hR hW HLE.out)
      clear hone hR
      unfold wv at hcall
      generalize out x = ox at *
      obtain ⟨x1, x2, x3⟩ := x
      simp only at *
      generalize x2.length = l2 at *
      generalize x3.length = l3 at *
      go_wp2_with fail
      refine (hcall _ (HW.out.1.below (balloc _ _))).out.mono ?_
      rintro e w2 ⟨rfl, hw2⟩
      have HW2 := D.hidIt hw2
      have HS2 := D.hidIt (HW.out.2.trans ((WS.of_below HW.out.1.lt (balloc _ _)).trans hw2.2))
      clear hw2 hcall r0 r1 r2
      go_wp2
      refine ⟨⟨kk + 1, by go_num, by omega, ?_⟩, by simp [intOf]; omega⟩
      show _ ∧ _
      rw [HT.out, ← List.append_assoc]
      exact ⟨HW2.out.1, HS2.out⟩
    · have hlt' : ¬ (kk : Int) < (n : Int) := by omega
      have HE := HW.out.1
      have HS := D.hidIt HW.out.2
      rw [List.take_of_length_le (by rw [HN.out]; omega), List.append_assoc] at HE
      have HE' := D.hidIt HE
      clear HE HW
      go_wp2
      go_end0
      exact ⟨rfl, HE'.out, HS.out⟩
end Go.Proofs.YthagaldpopnoeaaGreatDoor
