import Derived.Test.YtpehimfnkmepnaaGreatBy18
set_option maxRecDepth 8000
set_option maxHeartbeats 40000000
namespace Go.Proofs.YtpehimfnkmepnaaGreat.P3
open Go.RowKit
def ceq (c d : CD) : Bool := (c.kind == d.kind) && (c.n == d.n) && (c.cls.toList == d.cls.toList) && (c.nm.toList == d.nm.toList) && (c.dsc.toList == d.dsc.toList)
theorem zQk (w : World) (c d : CD) : (binOp .eql 112 c.val d.val).run Tryz.prog w = .ok (.bool (ceq c d)) w := by
 unfold CD.val ceq
 go_simp
 by_cases h1 : c.kind = d.kind
 · by_cases h2 : c.n = d.n
   · by_cases h3 : c.cls.toList = d.cls.toList
     · by_cases h4 : c.nm.toList = d.nm.toList
       · by_cases h5 : c.dsc.toList = d.dsc.toList <;> simp [h1, h2, h3, h4, h5]
       · simp [h1, h2, h3, h4]
     · simp [h1, h2, h3]
   · simp [h1, h2]
 · simp [h1]
theorem zCj {a b : ByteArray} (h : a.toList = b.toList) : a = b := by
 rw [Lib.toList_data, Lib.toList_data] at h
 rw [← D.zB1 a, ← D.zB1 b, h]
theorem zNq (c d : CD) : ceq c d = true ↔ c = d := by
 constructor
 · intro h
   simp only [ceq, Bool.and_eq_true, beq_iff_eq] at h
   obtain ⟨⟨⟨⟨h1, h2⟩, h3⟩, h4⟩, h5⟩ := h
   cases c; cases d
   simp only at h1 h2 h3 h4 h5
   rw [h1, h2, zCj h3, zCj h4, zCj h5]
 · rintro rfl; simp [ceq]
structure CD.Ok (c : CD) : Prop extends c.Fits where
 nlo : -2147483648 ≤ c.n
 nhi : c.n ≤ 2147483647
structure CAt (w : World) (g o : Nat) (c : CD) : Prop where
 c0 : w.cell? ⟨g, o, none⟩ = some (.int .i64 c.kind)
 c1 : w.cell? ⟨g, o + 1, none⟩ = some (.int .i32 c.n)
 c2 : w.cell? ⟨g, o + 2, none⟩ = some (.string c.cls)
 c3 : w.cell? ⟨g, o + 3, none⟩ = some (.string c.nm)
 c4 : w.cell? ⟨g, o + 4, none⟩ = some (.string c.dsc)
theorem CAt.below {w wr : World} {g o : Nat} {c : CD} (h : CAt w g o c) (hb : Below w.heap.size w wr) : CAt wr g o c :=
 ⟨cell_later hb h.c0, cell_later hb h.c1, cell_later hb h.c2, cell_later hb h.c3, cell_later hb h.c4⟩
theorem CAt.block {w wr : World} {g o : Nat} {c : CD} (h : CAt w g o c) (hb : wr.heap[g]? = w.heap[g]?) : CAt wr g o c := by
 have k : ∀ o, wr.cell? ⟨g, o, none⟩ = w.cell? ⟨g, o, none⟩ := fun o => World.cell?_of_block (a := ⟨g, o, none⟩) hb
 exact ⟨(k _).trans h.c0, (k _).trans h.c1, (k _).trans h.c2, (k _).trans h.c3, (k _).trans h.c4⟩
def zC0 (w : World) (g off : Nat) (l : List CD) : Prop := ∀ (i : Nat) c, l[i]? = some c → CAt w g (off + i * 5) c
def zEh (w : World) (v : Value) (l : List CD) : Prop :=
 ∃ ao cap, v = .slice ao l.length cap ∧ l.length ≤ cap ∧ cap ≤ maxLen ∧ (∀ c ∈ l, c.Ok) ∧ (l = [] ∨ ∃ g off, ao = some ⟨g, off, none⟩ ∧ zC0 w g off l)
theorem zEh.below {w wr : World} {v : Value} {l : List CD} (h : zEh w v l) (hb : Below w.heap.size w wr) : zEh wr v l := by
 obtain ⟨ao, cap, rfl, hc, hm, hk, hl⟩ := h
 refine ⟨ao, cap, rfl, hc, hm, hk, ?_⟩
 rcases hl with h | ⟨g, off, e, hl⟩
 · exact .inl h
 · exact .inr ⟨g, off, e, fun i c hi => (hl i c hi).below hb⟩
theorem zEh.nil (w : World) : zEh w (.slice none 0 0) [] := ⟨none, 0, rfl, Nat.le_refl _, by unfold maxLen; omega, by simp, .inl rfl⟩
def zAu (l : List CD) : List Value := l.flatMap CD.cells
theorem zE2 (c : CD) (l : List CD) : zAu (c :: l) = c.cells ++ zAu l := rfl
theorem zGt (a b : List CD) : zAu (a ++ b) = zAu a ++ zAu b := by simp [zAu]
theorem zG4 (l : List CD) : (zAu l).length = l.length * 5 := by
 induction l with
 | nil => rfl
 | cons c l ih => rw [zE2, List.length_append, ih]; simp [CD.cells]; omega
theorem zK9 (l : List CD) : ∀ u ∈ zAu l, u.oneCell' = true := by
 intro u hu
 simp only [zAu, List.mem_flatMap, CD.cells] at hu
 obtain ⟨c, _, hu⟩ := hu
 simp at hu
 rcases hu with rfl | rfl | rfl | rfl | rfl <;> rfl
theorem zF0 : ∀ (l : List CD) (i : Nat) (c : CD), l[i]? = some c → ∀ j, j < 5 → (zAu l)[i * 5 + j]? = c.cells[j]? := by
 intro l
 induction l with
 | nil => intro i c h; simp at h
 | cons d l ih =>
   intro i c h j hj
   rw [zE2]
   cases i with
   | zero =>
     simp at h; subst h
     rw [Nat.zero_mul, Nat.zero_add]
     exact List.getElem?_append_left (by simp [CD.cells]; omega)
   | succ i =>
     have hi : l[i]? = some c := by simpa using h
     rw [List.getElem?_append_right (by simp [CD.cells]; omega)]
     have e : (i + 1) * 5 + j - d.cells.length = i * 5 + j := by simp [CD.cells]; omega
     rw [e]
     exact ih i c hi j hj
theorem zHe (g off j : Nat) : (⟨g, off, none⟩ : Addr).add j = ⟨g, off + j, none⟩ := by unfold Addr.add; split <;> simp_all
theorem zC0.cells {w : World} {g off : Nat} {l : List CD} (h : zC0 w g off l) (j : Nat) (u : Value) (hj : (zAu l)[j]? = some u) : w.cell? ((⟨g, off, none⟩ : Addr).add j) = some u := by
 rw [zHe]
 have hlt : j < l.length * 5 := by rw [← zG4]; exact (List.getElem?_eq_some_iff.1 hj).1
 have hi : j / 5 < l.length := by omega
 obtain ⟨c, hc⟩ : ∃ c, l[j / 5]? = some c := ⟨_, List.getElem?_eq_getElem hi⟩
 have e := zF0 l (j / 5) c hc (j % 5) (by omega)
 rw [show j / 5 * 5 + j % 5 = j by omega, hj] at e
 have hA := h (j / 5) c hc
 have h5 : j % 5 < 5 := by omega
 have ej : off + j = off + j / 5 * 5 + j % 5 := by omega
 rw [ej]
 generalize j % 5 = r at *
 generalize off + j / 5 * 5 = o at *
 match r, h5, e with
 | 0, _, e => simp [CD.cells] at e; subst e; exact hA.c0
 | 1, _, e => simp [CD.cells] at e; subst e; exact hA.c1
 | 2, _, e => simp [CD.cells] at e; subst e; exact hA.c2
 | 3, _, e => simp [CD.cells] at e; subst e; exact hA.c3
 | 4, _, e => simp [CD.cells] at e; subst e; exact hA.c4
theorem zC0.of_cells {w : World} {g off : Nat} {l : List CD} (h : ∀ j u, (zAu l)[j]? = some u → w.cell? ((⟨g, off, none⟩ : Addr).add j) = some u) : zC0 w g off l := by
 intro i c hi
 have k := fun j (hj : j < 5) u (hu : c.cells[j]? = some u) => by
  have := h (i * 5 + j) u ((zF0 l i c hi j hj).trans hu)
  rw [zHe, ← Nat.add_assoc] at this
  exact this
 exact ⟨k 0 (by omega) _ rfl, k 1 (by omega) _ rfl, k 2 (by omega) _ rfl, k 3 (by omega) _ rfl, k 4 (by omega) _ rfl⟩
theorem zEh.of_own {w : World} {B : Nat} {v : Value} {l : List CD} (h : w.ownsRow B 112 5 v l.length (zAu l)) (hk : ∀ c ∈ l, c.Ok) : zEh w v l := by
 rcases h.2 with ⟨rfl, h0⟩ | ⟨g, cap, cur, rfl, _, hg, h1, h2, h3, h4⟩
 · have : l = [] := List.length_eq_zero_iff.1 h0
   subst this
   exact zEh.nil w
 · exact ⟨some ⟨g, 0, none⟩, cap, rfl, h1, h2, hk, .inr ⟨g, 0, rfl, zC0.of_cells (h.cells (g := g) rfl)⟩⟩
theorem zKp {w : World} {B n : Nat} {v : Value} {xs : List Value} (h : w.ownsRow B 112 5 v n xs) : ∃ ao cap, v = .slice ao n cap := by
 rcases h.2 with ⟨rfl, rfl⟩ | ⟨g, cap, cur, rfl, _⟩
 · exact ⟨_, _, rfl⟩
 · exact ⟨_, _, rfl⟩
def zPk : CD := ⟨0, 0, ⟨#[]⟩, ⟨#[]⟩, ⟨#[]⟩⟩
theorem Tryz.info112 : (Tryz.prog.info? 112).map (fun i => (i.zero, i.size, i.bytes)) = some (some zPk.val, 5, 64) := by kernel_rfl
def idxO (c : CD) : List CD → Option Nat
 | [] => none
 | d :: l => if ceq c d = true then some 0 else (idxO c l).map (· + 1)
theorem zSj {c : CD} : ∀ {l : List CD} {k : Nat} {d : CD}, l[k]? = some d → ceq c d = true → (∀ x ∈ l.take k, ceq c x = false) → idxO c l = some k := by
 intro l
 induction l with
 | nil => intro k d h; simp at h
 | cons x l ih =>
   intro k d h he hn
   cases k with
   | zero => simp at h; subst h; simp [idxO, he]
   | succ k =>
     have hx := hn x (by simp)
     simp only [idxO, hx, Bool.false_eq_true, if_false]
     rw [ih (k := k) (d := d) (by simpa using h) he (fun y hy => hn y (by simp [hy]))]
     rfl
theorem zRl {c : CD} {l : List CD} (hn : ∀ x ∈ l, ceq c x = false) : idxO c l = none := by
 induction l with
 | nil => rfl
 | cons x l ih =>
   simp only [idxO, hn x (by simp), Bool.false_eq_true, if_false]
   rw [ih (fun y hy => hn y (by simp [hy]))]
   rfl
theorem zLx (w : World) (c : CD) : CAt (w.alloc (.cells #[.int .i64 c.kind, .int .i32 c.n, .string c.cls, .string c.nm, .string c.dsc] 112)) w.heap.size 0 c := by
 have h := heap_alloc_new w (.cells #[.int .i64 c.kind, .int .i32 c.n, .string c.cls, .string c.nm, .string c.dsc] 112)
 constructor
 all_goals rw [cell_of_row _ _ _ _ 112 (0, 0) h]; rfl
theorem zAe {B : Nat} {w W : World} (h : Below B w W) (q : Nat) : Below B w (W.drewN q) := ⟨h.os, h.tape, h.output, h.size, h.block⟩
structure CD.Small (c : CD) : Prop where
 c3 : c.cls.size ≤ 1073741824
 c4 : c.nm.size ≤ 1073741824
 c5 : c.dsc.size ≤ 1073741824
def zI2 (s : ByteArray) : Bool := decide (D.zAp (bsB s) = true ∧ (bsB s)[0]? = some 91)
theorem zPw (s : ByteArray) : (D.zEm (bsB s)).2 = zI2 s := by
 unfold D.zEm zI2
 by_cases h : D.zAp (bsB s) = true ∧ (bsB s)[0]? = some 91
 · rw [if_pos h, decide_eq_true h]
 · rw [if_neg h, decide_eq_false h]
theorem zUr (s : ByteArray) : zFf s = (D.zAw (bsB s) || zI2 s) := by
 unfold zFf
 rw [zPw, Bool.or_comm]
theorem zKi (c : CD) (w : World) (hf : c.Small) :
 Calls Tryz.prog 122 #[c.val] w fun e w' => e = .returned (.bool (zB2 c)) ∧ Below w.heap.size w w' := by
 have s3 := hf.c3
 have s4 := hf.c4
 have s5 := hf.c5
 have b1 : ∀ o, Below w.heap.size w (w.alloc o) := fun o => (Below.refl _ _).alloc (Nat.le_refl _) o
 have hbx := zLx w c
 have HM := fun w => D.zA0 (D.zIw c.dsc w hf.c5)
 have HN3 := fun w => D.zA0 (D.zDe c.cls w (by omega))
 have HN4 := fun w => D.zA0 (D.zDe c.nm w (by omega))
 have HF3 := fun w => D.zA0 (D.zEy c.cls w (by omega))
 have HF5 := fun w => D.zA0 (D.zEy c.dsc w (by omega))
 have hA : ∀ h : 0 < c.cls.size, zI2 c.cls = (D.zAp (bsB c.cls) && decide (c.cls[0].toNat = 91)) := by
  intro h
  unfold zI2
  by_cases e : c.cls[0].toNat = 91
  · have := (D.at0 c.cls h 91 (by omega)).2 e
    rw [decide_eq_true e]
    simp only [show (bsB c.cls)[0]? = some 91 from this, and_true, Bool.and_true]
    cases D.zAp (bsB c.cls) <;> rfl
  · rw [decide_eq_false e]
    have : ¬ (bsB c.cls)[0]? = some 91 := fun h2 => e ((D.at0 c.cls h 91 (by omega)).1 h2)
    rw [Bool.and_false]
    exact decide_eq_false (fun h2 => this h2.2)
 have hA0 : ¬ 0 < c.cls.size → zI2 c.cls = false := by
  intro h
  unfold zI2
  have : (bsB c.cls)[0]? = none := List.getElem?_eq_none (by unfold bsB; rw [← D.zA7]; omega)
  simp [this]
 generalize hR : zB2 c = R
 unfold zB2 zDa zBr zCp at hR
 rw [zUr] at hR
 have HA := D.zA0 (And.intro hA hA0)
 have HR := D.zA0 hR
 clear hR hA hA0
 generalize hMM : D.meth (bsB c.dsc) = MM at *
 generalize hN3v : D.zAw (bsB c.cls) = n3 at *
 generalize D.zAw (bsB c.nm) = n4 at *
 generalize hF3v : D.zAp (bsB c.cls) = f3 at *
 generalize D.zAp (bsB c.dsc) = f5 at *
 generalize zI2 c.cls = ar at *
 have hMM' := D.zA0 hMM
 clear hMM hN3v hF3v
 obtain ⟨kind, n, cls, nm, dsc⟩ := c
 unfold CD.val at *
 simp only at HN3 HN4 HF3 HF5 HM HR HA s3 s4 s5 hMM' ⊢
 go_enter Tryz.func122, Tryz.ntmps122
 go_wp2_with fail
 refine (HM _).out.mono ?_
 rintro e w2 ⟨b2, ha⟩
 have BB := (b1 _).trans (b2.mono (by simp))
 have hbx2 := hbx.below b2
 obtain ⟨c0, c1, c2, c3, c4⟩ := hbx2
 simp only at c0 c1 c2 c3 c4
 have hM2 : ∃ v s, e = .returned (.tuple #[v, .string s, .bool MM.isSome]) := by
  rcases ha with ⟨ps, r, v, hm, rfl, ho⟩ | ⟨hm, rfl⟩
  · have : MM = some (ps, r) := hMM'.out.symm.trans hm
    rw [this]; exact ⟨_, _, rfl⟩
  · have : MM = none := hMM'.out.symm.trans hm
    rw [this]; exact ⟨_, _, rfl⟩
 obtain ⟨v, s, rfl⟩ := hM2
 clear ha hMM' HM b2 hbx hf
 generalize MM.isSome = mb at *
 go_upto_region 2 with fail
 go_cut [6] from 14 to 28 (fun s6 wx => s6 = .bool ar ∧ wx = w2)
 case first =>
  by_cases h0 : 0 < cls.size
  · have h0' : (0 : Int) < (cls.size : Int) := by omega
    have hA := HA.out.1 h0
    by_cases e : cls[0].toNat = 91
    · have eb : ((cls[0].toNat : Int) == 91) = true := by simp; omega
      rw [decide_eq_true e, Bool.and_true] at hA
      have HAA := D.zA0 hA
      clear hA
      go_wp2_with fail
      refine (HF3 _).out.mono ?_
      rintro e w' ⟨rfl, hww⟩; cases hww
      go_wp2
      go_meet
      exact ⟨by rw [HAA.out], rfl⟩
    · have eb : ((cls[0].toNat : Int) == 91) = false := by simp; omega
      rw [decide_eq_false e, Bool.and_false] at hA
      have HAA := D.zA0 hA
      clear hA
      go_wp2
      go_meet
      exact ⟨by rw [HAA.out], rfl⟩
  · have h0' : ¬ (0 : Int) < (cls.size : Int) := by omega
    have HAA := D.zA0 (HA.out.2 h0)
    go_wp2
    go_meet
    exact ⟨by rw [HAA.out], rfl⟩
 case rest =>
  obtain ⟨rfl, hwc⟩ := hcut
  subst hwc
  clear HA HF3
  by_cases k3 : kind = 3
  · subst k3
    go_wp2
    all_goals (go_ret; refine ⟨zD0 ?_, BB⟩; rw [← HR.out]; simp_all)
  · by_cases k7 : kind = 7
    · subst k7
      by_cases h0 : n = 0
      · subst h0
        go_wp2_with fail
        refine (HN3 _).out.mono ?_
        rintro e w' ⟨rfl, hww⟩; cases hww
        cases n3
        · cases ar
          · go_wp2
            all_goals (go_ret; refine ⟨zD0 ?_, BB⟩; rw [← HR.out]; simp_all)
          · go_wp2
            all_goals (go_ret; refine ⟨zD0 ?_, BB⟩; rw [← HR.out]; simp_all)
        · go_wp2
          all_goals (go_ret; refine ⟨zD0 ?_, BB⟩; rw [← HR.out]; simp_all)
      · go_wp2
        all_goals (go_ret; refine ⟨zD0 ?_, BB⟩; rw [← HR.out]; simp_all)
    · by_cases k9 : kind = 9
      · subst k9
        by_cases h0 : n = 0
        · subst h0
          go_wp2_with fail
          refine (HN3 _).out.mono ?_
          rintro e w' ⟨rfl, hww⟩; cases hww
          cases n3
          · go_wp2
            all_goals (go_ret; refine ⟨zD0 ?_, BB⟩; rw [← HR.out]; simp_all)
          · go_wp2_with fail
            refine (HN4 _).out.mono ?_
            rintro e w' ⟨rfl, hww⟩; cases hww
            cases n4
            · go_wp2
              all_goals (go_ret; refine ⟨zD0 ?_, BB⟩; rw [← HR.out]; simp_all)
            · go_wp2_with fail
              refine (HF5 _).out.mono ?_
              rintro e w' ⟨rfl, hww⟩; cases hww
              go_wp2
              all_goals (go_ret; refine ⟨zD0 ?_, BB⟩; rw [← HR.out]; simp_all)
        · go_wp2
          all_goals (go_ret; refine ⟨zD0 ?_, BB⟩; rw [← HR.out]; simp_all)
      · by_cases k10 : kind = 10
        · subst k10
          by_cases h0 : n = 0
          · subst h0
            go_wp2_with fail
            refine (HN3 _).out.mono ?_
            rintro e w' ⟨rfl, hww⟩; cases hww
            cases n3
            · go_wp2
              all_goals (go_ret; refine ⟨zD0 ?_, BB⟩; rw [← HR.out]; simp_all)
            · go_wp2_with fail
              refine (HN4 _).out.mono ?_
              rintro e w' ⟨rfl, hww⟩; cases hww
              cases n4
              · go_wp2
                all_goals (go_ret; refine ⟨zD0 ?_, BB⟩; rw [← HR.out]; simp_all)
              · cases mb
                · go_wp2
                  all_goals (go_ret; refine ⟨zD0 ?_, BB⟩; rw [← HR.out]; simp_all)
                · by_cases hd : dsc.size ≤ 256
                  · have hd' : (dsc.size : Int) ≤ 256 := by omega
                    go_wp2
                    all_goals (go_ret; refine ⟨zD0 ?_, BB⟩; rw [← HR.out]; simp [hd])
                  · have hd' : ¬ (dsc.size : Int) ≤ 256 := by omega
                    go_wp2
                    all_goals (go_ret; refine ⟨zD0 ?_, BB⟩; rw [← HR.out]; simp [hd, hd'])
          · go_wp2
            all_goals (go_ret; refine ⟨zD0 ?_, BB⟩; rw [← HR.out]; simp_all)
        · go_wp2
          all_goals (go_ret; refine ⟨zD0 ?_, BB⟩; rw [← HR.out]; simp_all)
end Go.Proofs.YtpehimfnkmepnaaGreat.P3
