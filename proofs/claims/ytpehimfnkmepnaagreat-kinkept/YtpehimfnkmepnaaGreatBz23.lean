import Derived.Test.YtpehimfnkmepnaaGreatBz22
set_option maxRecDepth 8000
set_option maxHeartbeats 40000000
namespace Go.Proofs.YtpehimfnkmepnaaGreat.M
open Go.RowKit
def Hl (c : Nat) (σ : SG) : Prop := σ.hs.length + c ≤ σ.labels
theorem Hl.mark {c : Nat} {σ : SG} (h : Hl c σ) : Hl (c + 1) σ.mark := by
 show σ.hs.length + (c + 1) ≤ σ.labels + 1
 unfold Hl at h
 omega
theorem Hl.wk {c d : Nat} {σ : SG} (h : Hl c σ) (hd : d ≤ c) : Hl d σ := by
 unfold Hl at *
 omega
theorem Hl.tried {c : Nat} {σ : SG} (h : Hl (c + 1) σ) (x : TR) : Hl c (σ.tried x) := by
 show (σ.hs ++ [x]).length + c ≤ σ.labels
 rw [List.length_append]
 unfold Hl at h
 simp
 omega
mutual
theorem Num.hl {d : Nat} {pl : Bool} {σ σ' : SG} {c : Nat} : Num d pl σ σ' → Hl c σ → Hl c σ'
 | .c0 _ _, h => h
 | .c1 _ _, h => h
 | .c2 _ _, h => h
 | .bin _ _ _ h1 h2, h => (h2.hl (h1.hl h) :)
 | .neg _ h1, h => (h1.hl h :)
 | .ldc _ _ _, h => h
 | .getx _ h1, h => (h1.hl h :)
 | .iaload _ h1, h => (h1.hl (c := c) h :)
 | .calc_ _ h1 h2, h => (h2.hl (h1.hl h) :)
 | .virt _ h1 h2, h => (h2.hl (h1.hl h) :)
 | .isa _ _ _ h1, h => (h1.hl h :)
theorem Ref.hl {d : Nat} {pl : Bool} {σ σ' : SG} {c : Nat} : Ref d pl σ σ' → Hl c σ → Hl c σ'
 | .r0 _ _, h => h
 | .newA, h => h
 | .newB, h => h
 | .next _ h1, h => (h1.hl h :)
 | .stat _, h => h
 | .aaload _ h1, h => (h1.hl (c := c) h :)
 | .cast _ _ _ h1, h => (h1.hl h :)
end
theorem Arr.hl {pl : Bool} {σ σ' : SG} {c : Nat} (h : Arr pl σ σ') (g : Hl c σ) : Hl c σ' := by
 cases h with
 | a0 h1 => exact (h1.hl g :)
 | a1 k c _ _ => exact g
 | a2 h1 h2 => exact (h2.hl (h1.hl (c := c) g) :)
 | a3 k _ h1 => exact (h1.hl (c := c) g :)
theorem Thr.hl {σ σ' : SG} {c : Nat} (h : Thr σ σ') (g : Hl c σ) : Hl c σ' := by cases h <;> exact g
theorem Cond.hl {pl : Bool} {no : Int} {σ σ' : SG} {c : Nat} (h : Cond pl no σ σ') (g : Hl c σ) : Hl c σ' := by
 cases h with
 | null op _ h1 => exact (h1.hl g :)
 | same op _ h1 h2 => exact (h2.hl (h1.hl g) :)
 | one k _ h1 => exact (h1.hl g :)
 | two k _ h1 h2 => exact (h2.hl (h1.hl g) :)
mutual
theorem One.hl {e : Nat} {pl : Bool} {σ σ' : SG} {c : Nat} : One e pl σ σ' → Hl c σ → Hl c σ'
 | .set_ _ _ h1, h => (h1.hl h :)
 | .inc _ _ _ _, h => h
 | .chs _ _ h1, h => h1.hl h
 | .lp _ _ h1, h => h1.hl h
 | .dup _ _ h1, h => (h1.hl h :)
 | .prt h1, h => (h1.hl h :)
 | .ast _ _ h1, h => (h1.hl h :)
 | .ptx h1 h2, h => (h2.hl (h1.hl h) :)
 | .ptn h1 h2, h => (h2.hl (h1.hl h) :)
 | .pts h1, h => (h1.hl h :)
 | .arr h1, h => h1.hl h
 | .tr _ _ h1, h => h1.hl h
 | .lk _ h1, h => h1.hl h
 | .thr h1, h => h1.hl h
 | .nwt _ _, h => h
theorem Sm.hl {e : Nat} {pl : Bool} {σ σ' : SG} {c : Nat} : Sm e pl σ σ' → Hl c σ → Hl c σ'
 | .nil, h => h
 | .snoc h1 _ h2, h => h2.hl (h1.hl h)
theorem Chs.hl {e : Nat} {pl : Bool} {σ σ' : SG} {c : Nat} : Chs e pl σ σ' → Hl c σ → Hl c σ'
 | .mk hc h1 h2, h => (h2.hl (c := c) (h1.hl (hc.hl ((h.mark.mark).wk (by omega)))) :)
theorem Lp.hl {e : Nat} {pl : Bool} {σ σ' : SG} {c : Nat} : Lp e pl σ σ' → Hl c σ → Hl c σ'
 | .mk _ _ _ _ h1, h => (h1.hl (c := c) ((h.mark.mark).wk (by omega)) :)
theorem Tr.hl {e : Nat} {pl : Bool} {σ σ' : SG} {c : Nat} : Tr e pl σ σ' → Hl c σ → Hl c σ'
 | .t0 h1 h2, h => by
   have a := h1.hl (c := c + 1) ((h.mark.mark.mark.mark).wk (by omega))
   exact (h2.hl (c := c) (Hl.tried a _) :)
 | .t1 h1 h2, h => by
   have a := h1.hl (c := c + 1) ((h.mark.mark.mark.mark).wk (by omega))
   exact (h2.hl (c := c) (Hl.tried a _) :)
theorem Lk.hl {e : Nat} {pl : Bool} {σ σ' : SG} {c : Nat} : Lk e pl σ σ' → Hl c σ → Hl c σ'
 | .l0 _ _ h1, h => (h1.hl (c := c) h :)
 | .l1 _ _ _ _ h1, h => (h1.hl (c := c) h :)
end
theorem zSc {k : BK} {pool : List CD} {σ : SG} (h : zBm k pool σ) : Hl 0 σ := by
 obtain ⟨σ1, h1, h2⟩ := h
 have h0 : Hl 0 (pre k pool) := by
  have : (pre k pool).hs = [] ∧ (pre k pool).labels = 0 := by cases k <;> exact ⟨rfl, rfl⟩
  unfold Hl
  rw [this.1]
  exact Nat.zero_le _
 have g1 := h1.hl h0
 split at h2
 · obtain ⟨σ2, h3, rfl⟩ := h2
   exact (h3.hl g1 :)
 · subst h2
   exact g1
theorem zN5 {k : BK} {pool : List CD} {σ : SG} (h : zBm k pool σ) (hp : pool.length ≤ 256) : (zDf σ).length ≤ 54 := by
 have h1 := zSc h
 have h2 := (zBt h hp).lab
 unfold Hl at h1
 unfold zDf
 rw [List.length_map]
 omega
def szs : List LN → Nat
 | [] => 0
 | x :: r => (if 0 ≤ x.hr then 0 else sz x.op) + szs r
theorem zMn (a b : List LN) : szs (a ++ b) = szs a + szs b := by
 induction a with
 | nil => simp [szs]
 | cons x a ih => simp only [List.cons_append, szs, ih]; omega
theorem szs_le (l : List LN) : szs l ≤ 3 * (l.filter (fun x => !decide (0 ≤ x.hr))).length := by
 induction l with
 | nil => simp [szs]
 | cons x r ih =>
   have := zPj x.op
   simp only [szs, List.filter_cons]
   by_cases h : 0 ≤ x.hr
   · simp [h]; omega
   · simp [h]; omega
theorem zKb : ∀ (ls : List LN) (p : Int) (ps : List Int) (i : Nat) (q : Int), (plc ls p ps)[i]? = some q → ps[i]? = some q ∨ ∃ a x c, ls = a ++ x :: c ∧ 0 ≤ x.hr ∧ x.hr.toNat = i ∧ q = p + (szs a : Nat)
 | [], p, ps, i, q, h => .inl h
 | x :: r, p, ps, i, q, h => by
   rw [zLk] at h
   by_cases hx : 0 ≤ x.hr
   · rw [if_pos hx] at h
     rcases zKb r p _ i q h with h | ⟨a, y, c, e1, e2, e3, e4⟩
     · by_cases e : x.hr.toNat = i
       · subst e
         rw [List.getElem?_set] at h
         simp only [if_true] at h
         split at h
         · cases h
           exact .inr ⟨[], x, r, rfl, hx, rfl, by simp [szs]⟩
         · cases h
       · rw [List.getElem?_set_ne e] at h
         exact .inl h
     · exact .inr ⟨x :: a, y, c, by rw [e1]; rfl, e2, e3, by rw [e4]; simp [szs, hx]⟩
   · rw [if_neg hx] at h
     rcases zKb r _ ps i q h with h | ⟨a, y, c, e1, e2, e3, e4⟩
     · exact .inl h
     · exact .inr ⟨x :: a, y, c, by rw [e1]; rfl, e2, e3, by rw [e4]; simp [szs, hx]; omega⟩
theorem zLo (ps : List Int) : ∀ (a c : List LN) (p : Int), (∃ y ∈ c, ¬ 0 ≤ y.hr) → ∃ z ∈ cod ps (a ++ c) p, z.pl = p + (szs a : Nat)
 | [], [], _, ⟨y, h, _⟩ => by simp at h
 | [], x :: c, p, ⟨y, h, hy⟩ => by
   rw [List.nil_append, zFs]
   by_cases hx : 0 ≤ x.hr
   · rw [if_pos hx]
     have : y ∈ c := by
      rcases List.mem_cons.1 h with rfl | h
      · exact absurd hx hy
      · exact h
     have := zLo ps [] c p ⟨y, this, hy⟩
     simpa using this
   · rw [if_neg hx]
     exact ⟨_, List.mem_cons_self, by simp [szs]⟩
 | x :: a, c, p, h => by
   rw [List.cons_append, zFs]
   by_cases hx : 0 ≤ x.hr
   · rw [if_pos hx]
     obtain ⟨z, h1, h2⟩ := zLo ps a c p h
     exact ⟨z, h1, by rw [h2]; simp [szs, hx]⟩
   · rw [if_neg hx]
     obtain ⟨z, h1, h2⟩ := zLo ps a c (p + (sz x.op : Nat)) h
     exact ⟨z, List.mem_cons_of_mem _ h1, by rw [h2]; simp [szs, hx]; omega⟩
def zQz (σ : SG) : Prop := ∃ ls0 x, σ.ls = ls0 ++ [x] ∧ ¬ 0 ≤ x.hr
theorem zQz.some {σ : SG} (h : zQz σ) : ∃ y ∈ σ.ls, ¬ 0 ≤ y.hr := by
 obtain ⟨ls0, z, h1, h2⟩ := h
 exact ⟨z, by rw [h1]; simp, h2⟩
theorem zCi {σ : SG} (h : szs σ.ls ≤ 1000) (i : Nat) : 0 ≤ ((zCo σ)[i]?).getD 0 ∧ ((zCo σ)[i]?).getD 0 ≤ 1000 := by
 cases hq : (zCo σ)[i]? with
 | none => exact ⟨Int.le_refl 0, by decide⟩
 | some q =>
   show 0 ≤ q ∧ q ≤ 1000
   rcases zKb σ.ls 0 _ i q hq with h1 | ⟨a, x, c, e1, e2, e3, e4⟩
   · rw [List.getElem?_replicate] at h1
     split at h1
     · cases h1; omega
     · cases h1
   · have : szs a ≤ szs σ.ls := by rw [e1, zMn]; omega
     omega
theorem zRn {op a b : Int} (p : Int) (h6 : kd op ≠ 6) : zAv ⟨p, op, a, b⟩ = zAv ⟨0, op, a, b⟩ := by
 unfold zAv
 dsimp only
 split <;> first | rfl | (rename_i h; exact absurd h h6)
theorem zG1 (ps : List Int) (hps : ∀ i : Nat, 0 ≤ (ps[i]?).getD 0 ∧ (ps[i]?).getD 0 ≤ 1000) : ∀ (ls : List LN) (p : Nat) (out : List Int), (∀ x ∈ ls, LOk x) → out.length = p → p + szs ls ≤ 1000 → ∃ b, encL (cod ps ls (p : Int)) out = (b, 0)
 | [], p, out, _, ho, hp => ⟨out, by
   unfold cod encL
   rw [if_neg (by simp [szs] at hp; omega)]⟩
 | x :: r, p, out, hl, ho, hp => by
   have hx := hl x (by simp)
   have hr : ∀ y ∈ r, LOk y := fun y hy => hl y (by simp [hy])
   rw [zFs]
   simp only [szs] at hp
   rcases hx with ⟨h1, h2⟩ | ⟨h1, h2, h3, h4, h5⟩ | ⟨h1, h2, h3, h4, h5⟩
   · rw [if_pos h1] at hp ⊢
     exact zG1 ps hps r p out hr ho (by omega)
   · rw [if_neg (by omega)] at hp
     rw [if_neg (by omega), if_neg (by omega)]
     unfold encL
     rw [if_neg h3, if_neg (by simp [ho]), if_neg (by rw [zRn _ h4, h5]; decide)]
     have := zG1 ps hps r (p + sz x.op) (out ++ oneB ⟨(p : Int), x.op, x.a, x.b⟩) hr (by rw [List.length_append, zG7 _ h3, ho]) (by omega)
     rw [Int.natCast_add] at this
     exact this
   · have hk : kd x.op ≠ 0 := by rw [h3]; decide
     rw [if_neg (by omega)] at hp
     rw [if_neg (by omega), if_pos h2]
     unfold encL
     have hq := hps x.lb.toNat
     rw [if_neg hk, if_neg (by simp [ho]), if_neg (by
      unfold zAv
      dsimp only
      rw [h3]
      simp only [decide_eq_false_iff_not, Classical.not_not]
      exact ⟨h5, by omega, by omega⟩)]
     have := zG1 ps hps r (p + sz x.op) (out ++ oneB ⟨(p : Int), x.op, (ps[x.lb.toNat]?).getD 0, x.b⟩) hr (by rw [List.length_append, zG7 _ hk, ho]) (by omega)
     rw [Int.natCast_add] at this
     exact this
theorem zJ5 {pool : List CD} {σ : SG} (h : Made pool σ) : szs σ.ls ≤ 390 := by
 have h1 := szs_le σ.ls
 have h2 := h.ins
 unfold SG.ins at h2
 omega
theorem zNw {pool : List CD} {σ : SG} (h : Made pool σ) : zPr (encL (zBw σ) []).1 = (zBw σ, 0, 0) := by
 have hs := zJ5 h
 obtain ⟨b, hb⟩ := zG1 (zCo σ) (fun i => zCi (by omega) i) σ.ls 0 [] (fun x hx => (h.good.ls x hx).1) rfl (by omega)
 have hb' : encL (zBw σ) [] = (b, 0) := hb
 rw [hb']
 exact back2 _ _ hb'
theorem zMr {k : BK} {pool : List CD} {σ : SG} (h : zBm k pool σ) : zQz σ := by
 obtain ⟨σ1, _, h2⟩ := h
 split at h2
 · obtain ⟨σ2, _, rfl⟩ := h2
   exact ⟨σ2.ls, _, rfl, by decide⟩
 · subst h2
   exact ⟨σ1.ls, _, rfl, by decide⟩
theorem zQu {σ : SG} (h : zQz σ) : 0 < (zBw σ).length := by
 obtain ⟨z, hz, _⟩ := zLo (zCo σ) [] σ.ls 0 h.some
 have hz' : z ∈ zBw σ := by simpa [zBw] using hz
 exact List.length_pos_of_mem hz'
theorem Tryz.info39x : (Tryz.prog.info? 39).map (fun i => (i.zero, i.size, i.bytes)) = some (some (.agg #[.string ⟨#[]⟩, .string ⟨#[]⟩, .bool false, .bool false, .int .i64 0, .int .i64 0, .slice none 0 0, .slice none 0 0, .slice none 0 0]), 9, 128) := by kernel_rfl
theorem zBo {w : World} {ops : Array Oper} {rest : List Oper} {o : Oper} {a : Act} {Q : Exit → Act → World → Prop} (hgd : o.guard = none) (s x : Operand)
 (ho : o.op = .call { callee := .builtin .append, args := #[s, x], argTypes := #[29, 29] })
 (B : Nat) (v : Value) (n : Nat) (xs ys : List Value) (b m : Nat) (hs : a.eval s = v) (hx : a.eval x = .slice (some ⟨b, 0, none⟩) m m) (hown : w.ownsRow B 39 9 v n xs) (hg : w.heap[b]? = some (.cells ys.toArray 39 (0, 0)))
 (hy : ys.length = m * 9) (hone : ∀ u ∈ ys, u.oneCell' = true) (hm0 : 0 < m) (hm : m ≤ 10) (hlen : n ≤ 1000000) (hB : B ≤ w.heap.size)
 (h : ∀ v' w', w'.ownsRow B 39 9 v' (n + m) (xs ++ ys) → w.grownBy w' v.ownBlock → wpList Tryz.prog ops Q rest (a.put o.dst v') w') :
 wpList Tryz.prog ops Q (o :: rest) a w := by
 obtain ⟨i0, hi, hz0, hz1, hz2⟩ := info_parts Tryz.info39x
 refine wpList_plain hgd fun K hK => ?_
 obtain ⟨v', w', hr, h2, h3, _, h4⟩ := run_append_own_at (P := Tryz.prog) w B 29 o.type 39 i0 _ 9 128 Tryz.underlying29 hi hz0 hz1 hz2 rfl (by decide) v n xs hown ⟨b, 0, none⟩ m m ys hy
  (fun j u hj => by
   have e : (⟨b, 0, none⟩ : Addr).add j = ⟨b, j, none⟩ := by unfold Addr.add; split <;> simp_all
   rw [e]
   exact zA1 hg j (by simpa using hj)) hone (by unfold maxLen; omega) (by omega) (by omega)
 unfold Oper.wp execOp
 simp only [ho, resolve, invoke, builtin, Sem.run_bind, Sem.run_pure, Result.andThen_ok, List.map_toArray, List.map_cons, List.map_nil, hs, hx, hr]
 exact hK _ _ (h v' w' h2 h3)
theorem Kq.same {pr : Nat} {w w' : World} (h : Kq w.heap.size pr w w') {cs : Array Value} (hp : w.heap[pr]? = some (.cells cs 104 (0, 0))) {T : TypeId} (hT : T ≠ 104) : Same T w w' := fun g cur hg => by
 rw [h.block g (Array.getElem?_eq_some_iff.1 hg).1 (zBg hg hp hT)]; exact hg
theorem zBy.same {pr : Nat} {w w' : World} (hr : zBy pr w) (h : Kq w.heap.size pr w w') {T : TypeId} (hT : T ≠ 104) : Same T w w' := by
 obtain ⟨_, _, _, h1, _⟩ := hr
 exact h.same h1 hT
theorem zBy.lt {pr : Nat} {w : World} (hr : zBy pr w) : pr < w.heap.size := by
 obtain ⟨_, _, _, h1, _⟩ := hr
 exact (Array.getElem?_eq_some_iff.1 h1).1
theorem zBy.below {pr : Nat} {w w' : World} (hr : zBy pr w) (h : Below w.heap.size w w') : zBy pr w' := by
 obtain ⟨vr, rl, at_, h1, h2, h3⟩ := hr
 exact ⟨vr, rl, at_, (h.block pr (Array.getElem?_eq_some_iff.1 h1).1).trans h1, (h2.kq (Kq.of_below h (Nat.le_refl _))).mono h.size, h3⟩
theorem zBy.other {pr k o : Nat} {w : World} {u : Value} (hr : zBy pr w) (hk : pr < k) : zBy pr (w.setCell ⟨k, o, none⟩ u) := by
 obtain ⟨vr, rl, at_, h1, h2, h3⟩ := hr
 have hK : Kq k pr w (w.setCell ⟨k, o, none⟩ u) := (Kq.refl k pr w).set (.inl (Nat.le_refl _))
 refine ⟨vr, rl, at_, (Below.heap_setCell _ _ _ _ (by show pr ≠ k; omega)).trans h1, ?_, h3⟩
 obtain ⟨ao', cap', e1, hc, hm, hx, hl⟩ := h2
 refine ⟨ao', cap', e1, hc, hm, hx, ?_⟩
 rcases hl with h | ⟨g, off, e2, hg, hp, hl⟩
 · exact .inl h
 · exact .inr ⟨g, off, e2, by simpa using hg, hp, fun j x hj => (World.cell?_of_block (a := ⟨g, off + j, none⟩) (hK.block g (by omega) (Nat.ne_of_lt hp))).trans (hl j x hj)⟩
theorem zBy.row {pr k : Nat} {w : World} {cs : Array Value} (hr : zBy pr w) (hk : pr < k) : zBy pr (w.setRow k cs) := by
 obtain ⟨vr, rl, at_, h1, h2, h3⟩ := hr
 refine ⟨vr, rl, at_, (setRow_other _ _ _ _ (by omega)).trans h1, ?_, h3⟩
 obtain ⟨ao', cap', e1, hc, hm, hx, hl⟩ := h2
 refine ⟨ao', cap', e1, hc, hm, hx, ?_⟩
 rcases hl with h | ⟨g, off, e2, hg, hp, hl⟩
 · exact .inl h
 · exact .inr ⟨g, off, e2, by simpa [World.setRow] using hg, hp, fun j x hj => (World.cell?_of_block (a := ⟨g, off + j, none⟩) (setRow_other _ _ _ _ (by show g ≠ k; omega))).trans (hl j x hj)⟩
theorem zF6.parts {k : BK} {pool : List CD} {pr : Nat} {w w' : World} {e : Ending} (h : zF6 k pool pr w e w') : ∃ σ ac nc capc ah nh caph af nf capf aop capp, zBm k pool σ ∧ e = .returned (.tuple #[.agg #[.string k.nm, .string k.ds, .bool k.st, .bool false, .int .i64 16, .int .i64 ((zB5 k.pl).length : Nat), .slice ac nc capc, .slice ah nh caph, .slice af nf capf], .slice aop σ.pool.length capp]) ∧ zBy pr w' ∧ Kq w.heap.size pr w w' ∧
 (w'.ownsRow 0 112 5 (.slice aop σ.pool.length capp) σ.pool.length (zB2 σ.pool) ∧ ∀ x ∈ σ.pool, P3.CD.Ok x) ∧ zGe w' w.heap.size k σ #[.string k.nm, .string k.ds, .bool k.st, .bool false, .int .i64 16, .int .i64 ((zB5 k.pl).length : Nat), .slice ac nc capc, .slice ah nh caph, .slice af nf capf] := by
 obtain ⟨σ, row, vp, hb, he, hr, hk, hp, hok, hl⟩ := h
 obtain ⟨aop, capp, rfl⟩ := zA4 hp
 have hl' := hl
 obtain ⟨vc, vh, vf, fs, rfl, h1, h2, h3, h4⟩ := hl
 obtain ⟨ac, capc, rfl⟩ := zA4 h1
 obtain ⟨ah, caph, rfl⟩ := zA4 h2
 obtain ⟨af, capf, rfl⟩ := zA4 h3
 exact ⟨σ, ac, _, capc, ah, _, caph, af, _, capf, aop, capp, hb, he, hr, hk, ⟨hp, hok⟩, hl'⟩
def zOz (f : ByteArray × ByteArray × Bool) : List Value := [.string f.1, .string f.2.1, .bool f.2.2]
def FLies (w : World) (v : Value) (fs : List (ByteArray × ByteArray × Bool)) : Prop := (fs = [] ∧ v = .slice none 0 0) ∨ ∃ g, v = .slice (some ⟨g, 0, none⟩) fs.length fs.length ∧ w.heap[g]? = some (.cells (fs.flatMap zOz).toArray 44 (0, 0))
def zC7 (w : World) (b : Nat) (c : Array Value) (nm sup : ByteArray) (fs : List (ByteArray × ByteArray × Bool)) (pool : List CD) (ms : List (BK × SG)) (b0 : Nat := 0) : Prop :=
 ∃ vp vf vm, c = #[.string nm, .string sup, vp, vf, vm] ∧ (w.ownsRow 0 112 5 vp pool.length (zB2 pool) ∧ ∀ x ∈ pool, P3.CD.Ok x) ∧ FLies w vf fs ∧ ∃ rows : List (Array Value), rows.length = ms.length ∧ w.ownsRow b 39 9 vm ms.length (rows.flatMap Array.toList) ∧ ∀ (j : Nat) m r, ms[j]? = some m → rows[j]? = some r → zGe w b0 m.1 m.2 r
structure zP9 (σa : SG) (ob : Option SG) (σt σm σc : SG) : Prop where
 a : zBm .go [] σa
 b : ∀ σ, ob = some σ → zBm .go [] σ
 t : zBm .run [] σt
 m : zBm .main [] σm
 c : zBm .calc σm.pool σc
def zG3 : List (ByteArray × ByteArray × Bool) := [(sx, sI, false), (zS3, sLA, false), (⟨#[115]⟩, sI, true), (sr, sLA, true)]
def zLe : List (ByteArray × ByteArray × Bool) := [(⟨#[121]⟩, sI, false), (⟨#[111, 116, 104, 101, 114]⟩, sLA, false)]
def zSb : Option SG → List CD
 | none => []
 | some σ => σ.pool
def methB : Option SG → List (BK × SG)
 | none => []
 | some σ => [(.go, σ)]
def zJ0 (w : World) (e : Ending) (w' : World) : Prop := ∃ (g : Nat) (cA cB cT cC : Array Value) (σa : SG) (ob : Option SG) (σt σm σc : SG), zP9 σa ob σt σm σc ∧ e = .returned (.slice (some ⟨g, 0, none⟩) 4 4) ∧ w.heap.size ≤ g ∧ w'.heap[g]? = some (.cells (cA ++ cB ++ cT ++ cC) 31 (0, 0)) ∧ Below w.heap.size w w' ∧
 zC7 w' w.heap.size cA sA sObj zG3 σa.pool [(.go, σa)] w.heap.size ∧ zC7 w' w.heap.size cB sB sA zLe (zSb ob) (methB ob) ∧ zC7 w' w.heap.size cT sT zKc [] σt.pool [(.run, σt)] ∧ zC7 w' w.heap.size cC sMain sObj [] σc.pool [(.main, σm), (.calc, σc)]
theorem zC7.any {w : World} {b b0 : Nat} {c : Array Value} {nm sup : ByteArray} {fs : List (ByteArray × ByteArray × Bool)} {pool : List CD} {ms : List (BK × SG)} (h : zC7 w b c nm sup fs pool ms b0) : zC7 w b c nm sup fs pool ms := by
 obtain ⟨vp, vf, vm, e, h1, h2, rows, h3, h4, h5⟩ := h
 exact ⟨vp, vf, vm, e, h1, h2, rows, h3, h4, fun j m r hm hr => (h5 j m r hm hr).wk (Nat.zero_le _)⟩
end Go.Proofs.YtpehimfnkmepnaaGreat.M
