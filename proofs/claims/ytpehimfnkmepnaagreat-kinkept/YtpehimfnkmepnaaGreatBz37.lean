import Derived.Test.YtpehimfnkmepnaaGreatBz36
set_option maxRecDepth 8000
set_option maxHeartbeats 40000000
namespace Go.Proofs.YtpehimfnkmepnaaGreat.K
open Go.RowKit Q Q.D
theorem zK8 : ∀ {R : List Mem} {s : ByteArray} {m : Mem}, zB7 R s = some m → m ∈ R ∧ m.k.nm = s
 | x :: R, s, m, h => by
   unfold zB7 at h
   split at h
   · rename_i hb; cases h; exact ⟨by simp, ((MapKept.bytes_beq _ _).1 hb).symm⟩
   · obtain ⟨h1, h2⟩ := zK8 h; exact ⟨by simp [h1], h2⟩
theorem Mems.at {w : World} : ∀ {R : List Mem}, Mems w R → ∀ m ∈ R, ∃ ab, zF2 w m ab
 | x :: R, ⟨h1, _, h3⟩, m, hm => by
   rcases List.mem_cons.1 hm with rfl | h
   · exact ⟨_, h1⟩
   · exact h3.at m h
theorem zOr (w : World) (pk : Nat) (R : List Mem) (mb : Nat) (ao : Option Addr) (c : Nat) (h : KinV w pk R mb ao c) (hR : R.length ≤ 1000) :
 Calls Tryz.prog 16 #[.pointer (some ⟨pk, 0, none⟩)] w fun e w' => Below w.heap.size w w' ∧ ∃ v', e = .returned v' ∧ w'.ownsRow w.heap.size 9 1 v' R.length (R.reverse.map fun m => .string m.k.nm) := by
 have e0 := h.e0
 obtain ⟨_, _, rows, h3, h4⟩ := h.names
 have hlen : (R.reverse.map fun m => m.k.nm).length = R.length := by simp
 rw [hlen] at h3
 have hrow : ∀ j, j < R.length → rows j = [.string ((R.reverse.map fun m => m.k.nm).getD j ⟨#[]⟩)] := fun j hj => by
  have := (h4 j _ (List.getElem?_eq_getElem (by rw [hlen]; exact hj))).1
  rw [this, List.getD_eq_getElem?_getD, List.getElem?_eq_getElem (by rw [hlen]; exact hj)]; rfl
 have hfl : zAw rows R.length = R.reverse.map fun m => .string m.k.nm := by
  refine List.ext_getElem? (fun y => ?_)
  have hk : ∀ j, j < R.length → (rows j).length = 1 := fun j hj => by rw [hrow j hj]; rfl
  by_cases hy : y < R.length
  · have := zA7 hk y hy 0 (by omega)
    rw [Nat.mul_one, Nat.add_zero, hrow y hy] at this
    rw [this, List.getD_eq_getElem?_getD]
    simp [hy]
  · rw [List.getElem?_eq_none (by rw [zB4 hk]; omega), List.getElem?_eq_none (by simp; omega)]
 have hC := D.zA0 (zM7 w ao R.length c rows h3 (fun j hj => by rw [hrow j hj]; rfl) (fun j hj u hu => by rw [hrow j hj] at hu; simp at hu; subst hu; rfl) (by omega))
 rw [hfl] at hC
 go_enter Tryz.func16, Tryz.ntmps16
 go_wp2_with (go_at_call 62; refine hC.out.mono ?_; rintro e w' ⟨hb', v', rfl, ho⟩)
 go_ret
 exact ⟨hb', _, rfl, ho⟩
theorem zC6 {fn : Func} {p t1 : Tmp} {ty : TypeId} (h : fn.results = #[.cell p ty, .tmp t1]) (tmps : Array Value) (w : World) (g : Nat) (t : TypeId) (cs : Array Value) (fr : Nat × Nat) (d : TypeDesc)
 (hp : tmps.getD p undef = .pointer (some ⟨g, 0, none⟩)) (hg : w.heap[g]? = some (.cells cs t fr))
 (hu : Tryz.prog.underlying ty = some d) (hd : (match d with | .struct _ | .array _ _ => true | _ => false) = true) (hi : (Tryz.prog.info? ty).map (·.size) = some cs.size) :
 (results fn tmps).run Tryz.prog w = .ok (.tuple #[.agg cs, tmps.getD t1 undef]) w := by
 have hp' : tmps[p]?.getD undef = .pointer (some ⟨g, 0, none⟩) := by simpa using hp
 have hL := run_loadVar_row (P := Tryz.prog) w g t ty cs fr d hg hu (by cases d <;> simp_all) hi
 simp [results, h, hp', asAddr, hL, Result.andThen]
theorem zH5 {fn : Func} {p t1 t2 : Tmp} {ty : TypeId} (h : fn.results = #[.tmp t1, .cell p ty, .tmp t2]) (tmps : Array Value) (w : World) (g : Nat) (t : TypeId) (cs : Array Value) (fr : Nat × Nat) (d : TypeDesc)
 (hp : tmps.getD p undef = .pointer (some ⟨g, 0, none⟩)) (hg : w.heap[g]? = some (.cells cs t fr))
 (hu : Tryz.prog.underlying ty = some d) (hd : (match d with | .struct _ | .array _ _ => true | _ => false) = true) (hi : (Tryz.prog.info? ty).map (·.size) = some cs.size) :
 (results fn tmps).run Tryz.prog w = .ok (.tuple #[tmps.getD t1 undef, .agg cs, tmps.getD t2 undef]) w := by
 have hp' : tmps[p]?.getD undef = .pointer (some ⟨g, 0, none⟩) := by simpa using hp
 have hL := run_loadVar_row (P := Tryz.prog) w g t ty cs fr d hg hu (by cases d <;> simp_all) hi
 simp [results, h, hp', asAddr, hL, Result.andThen]
theorem zAp.ext {w w' : World} (he : Ext w w') {v : Value} {k : KD} (h : zAp w v k) : zAp w' v k := by
 obtain ⟨o1, c1, o2, c2, o3, c3, e, s1, s2, h1, h2, h3⟩ := h
 exact ⟨o1, c1, o2, c2, o3, c3, e, s1, s2, LAt.ext h1 he (fun _ _ h => h), LAt.ext h2 he (fun _ _ h => h), LAt.ext h3 he (fun _ _ h => zB1.ext he h)⟩
def GetIs (w w' : World) (o : Option Mem) (e : Ending) : Prop :=
 match o with
 | none => e = .returned (.tuple #[.agg #[.string ⟨#[]⟩, .string ⟨#[]⟩, .slice none 0 0, .slice none 0 0, .slice none 0 0], .bool false])
 | some m => ∃ v', e = .returned (.tuple #[v', .bool true]) ∧ zAp (seen (newB w.heap.size) w') v' m.k
theorem zRp (w : World) (pk : Nat) (R : List Mem) (mb : Nat) (ao : Option Addr) (c : Nat) (h : KinV w pk R mb ao c) (hsm : ∀ m ∈ R, KSm m.k) (s : ByteArray) :
 Calls Tryz.prog 13 #[.pointer (some ⟨pk, 0, none⟩), .string s] w fun e w' => Below w.heap.size w w' ∧ GetIs w w' (zB7 R s) e := by
 have B1 := zA9 w (.cells #[.string ⟨#[]⟩, .string ⟨#[]⟩, .slice none 0 0, .slice none 0 0, .slice none 0 0] 31)
 have h1 := h.below B1
 have hl := h1.look s
 have e1 := h1.e1
 have Y1 := Blk.new w #[.string ⟨#[]⟩, .string ⟨#[]⟩, .slice none 0 0, .slice none 0 0, .slice none 0 0] 31
 cases hm : zB7 R s with
 | none =>
   rw [hm] at hl
   simp only [ptr] at hl
   go_enter Tryz.func13, Tryz.ntmps13
   go_wp2
   go_returns
   exact ⟨B1, rfl⟩
 | some m =>
   rw [hm] at hl
   simp only [ptr] at hl
   obtain ⟨hmR, -⟩ := zK8 hm
   obtain ⟨ab, o1, c1, o2, c2, o3, c3, hM⟩ := h1.mems.at m hmR
   have hcp := D.zA0 (copyC m.k _ _ hM.cls (hsm m hmR))
   have y0 := hM.e0
   have y1 := hM.e1
   have y2 := hM.e2
   have y3 := hM.e3
   have y4 := hM.e4
   clear hM
   go_enter Tryz.func13, Tryz.ntmps13
   go_wp2_with fail
   generalize w.alloc (.cells #[.string ⟨#[]⟩, .string ⟨#[]⟩, .slice none 0 0, .slice none 0 0, .slice none 0 0] 31) = W1 at *
   refine hcp.out.mono ?_
   rintro e w2 ⟨b2, v2, rfl, hc2⟩
   have hc := hc2
   obtain ⟨p1, q1, p2, q2, p3, q3, rfl, _⟩ := hc2
   have Y2 := Y1.below b2
   go_wp2_with (refine wpList_store_row rfl 31 _ _ rfl w.heap.size #[.string m.k.nm, .string m.k.sup, .slice p1 m.k.pool.length q1, .slice p2 m.k.fs.length q2, .slice p3 m.k.ms.length q3] rfl rfl 31 _ Y2 (by kernel_rfl) rfl (by simp [Value.oneCell']) ?_)
   refine bodyPost_ret (zC6 rfl _ _ w.heap.size 31 _ (0, 0) _ rfl (setRow_heap _ _ _ _ _ _ Y2) Tryz.underlying31 rfl (by kernel_rfl)) rfl ?_
   have hs1 := B1.size
   have hY := Y1.lt
   have Eb : Ext (seen (newB W1.heap.size) w2) (seen (newB w.heap.size) (w2.setRow w.heap.size #[.string m.k.nm, .string m.k.sup, .slice p1 m.k.pool.length q1, .slice p2 m.k.fs.length q2, .slice p3 m.k.ms.length q3])) :=
    zAl (by simp [World.setRow]) (fun b _ hb => by
     simp only [newB, decide_eq_true_eq] at hb
     exact ⟨by simp [newB]; omega, setRow_other _ _ _ _ (by omega)⟩)
   exact ⟨zBn (next B1 b2) (Nat.le_refl _) _, _, rfl, zAp.ext Eb hc⟩
end Go.Proofs.YtpehimfnkmepnaaGreat.K
namespace Go.Proofs.YtpehimfnkmepnaaGreat.K
open Go.RowKit Go.ChangeMaps Q Q.D
def refZ (R : List Mem) (k : KD) : Int :=
 if zD8 k = 0 then
  (if (zB7 R k.nm).isSome then 23 else if 32 ≤ R.length then 4 else if (zB7 R k.sup).isNone then 22 else if k.ms.any MD.nat then 12 else if k.ms.any (zD7 (lin R k.sup)) then 23 else 0)
 else zD8 k
theorem zOe (p : Option Mem) (xs : List Mem) (ao : Option Addr) (c : Nat) (l : List MD) (w : World) (h : LAt 9 zB1 w ao c l) (hch : zDj w p xs) :
 Calls Tryz.prog 104 #[.slice ao l.length c, .func (.func 106) #[ptr p] #[]] w fun e w' => e = .returned (.bool (l.any (zD7 xs))) ∧ Below w.heap.size w w' := by
 have hbig := h.big
 obtain ⟨h1, h2, rows, h3, h4⟩ := h
 have := hasB Tryz.hasM 9 Tryz.isAgg39 Tryz.sizeOf39 rows l.length (fun j hj => by obtain ⟨_, _, _, _, _, _, e, _⟩ := h4 j l[j] (List.getElem?_eq_getElem hj); rw [e]; rfl) (fun j => zD7 xs (l.getD j ⟨⟨#[]⟩, ⟨#[]⟩, false, false, 0, 0, [], [], []⟩)) 106 (ptr p) (enters_of Tryz.func106 (by kernel_rfl) rfl) ao c w (fun W j hj hW => by
  have e : l.getD j ⟨⟨#[]⟩, ⟨#[]⟩, false, false, 0, 0, [], [], []⟩ = l[j] := by simp [List.getD_eq_getElem?_getD, List.getElem?_eq_getElem hj]
  obtain ⟨_, _, _, _, _, _, er, _⟩ := h4 j l[j] (List.getElem?_eq_getElem hj)
  rw [e, er]
  refine (zNa l[j] _ _ _ _ _ _ _ _ _ W p xs (hch.ext (zAi hW))).mono ?_
  rintro e w' ⟨rfl, hb⟩
  exact ⟨rfl, next hW hb⟩) hbig h3
 rw [zEi l _ (zD7 xs) (fun i x hx => by rw [List.getD_eq_getElem?_getD, hx]; rfl)] at this
 exact this
theorem zMw (w : World) (pk : Nat) (R : List Mem) (mb : Nat) (ao : Option Addr) (c : Nat) (h : KinV w pk R mb ao c) (k : KD) (cv : Value) (hc : zAp w cv k) :
 Calls Tryz.prog 56 #[.pointer (some ⟨pk, 0, none⟩), cv] w fun e w' => e = .returned (.int .i64 (refZ R k)) ∧ Below w.heap.size w w' := by
 have hc' := hc
 obtain ⟨o1, c1, o2, c2, o3, c3, rfl, z1, z2, k1, k2, k3⟩ := hc
 have B1 := zA9 w (.cells #[.string k.nm, .string k.sup, .slice o1 k.pool.length c1, .slice o2 k.fs.length c2, .slice o3 k.ms.length c3] 31)
 have C1 := Blk.new w #[.string k.nm, .string k.sup, .slice o1 k.pool.length c1, .slice o2 k.fs.length c2, .slice o3 k.ms.length c3] 31
 have hRt := D.zA0 (zKx k _ _ (hc'.below B1))
 obtain ⟨rf, hrf⟩ : ∃ rf, refZ R k = rf := ⟨_, rfl⟩
 rw [hrf]
 have HF := D.zA0 hrf
 clear hrf
 go_enter Tryz.func56, Tryz.ntmps56
 go_wp2_with fail
 generalize w.alloc (.cells #[.string k.nm, .string k.sup, .slice o1 k.pool.length c1, .slice o2 k.fs.length c2, .slice o3 k.ms.length c3] 31) = W1 at *
 refine hRt.out.mono ?_
 rintro e w2 ⟨rfl, b2⟩
 have B2 := next B1 b2
 have h2 := h.below B2
 have C2 := C1.below b2
 by_cases hz : zD8 k = 0
 · have HZ := D.zA0 hz
   rw [hz]
   clear hz
   have x1 := h2.e1
   have x0 := h2.e0
   have y0 := C2.cell 0
   have y1 := C2.cell 1
   have y4 := C2.cell 4
   simp at y0 y1 y4
   have l1 : (Instr.lookup 97 (.map (some mb)) (.string k.sup) false).run Tryz.prog w2.drew = .ok (ptr (zB7 R k.sup)) w2.drew := (h2.below (Below.refl _ w2).drew).look k.sup
   have hch := (h2.below (Below.refl _ w2).drew).mems.chain k.sup
   obtain ⟨ps, hps⟩ : ∃ ps, zB7 R k.sup = ps := ⟨_, rfl⟩
   rw [hps] at l1 hch
   have HP := D.zA0 hps
   clear hps
   obtain ⟨q, hq⟩ : ∃ q, ptr ps = .pointer q := by cases ps <;> exact ⟨_, rfl⟩
   rw [hq] at l1
   have HQ := D.zA0 hq
   clear hq
   go_wp2_with fail
   go_region
   have h3 := h2.below (Below.refl _ w2).drew
   have C3 : Blk w2.drew w.heap.size #[.string k.nm, .string k.sup, .slice o1 k.pool.length c1, .slice o2 k.fs.length c2, .slice o3 k.ms.length c3] 31 := C2
   have B3 : Below w.heap.size w w2.drew := B2.drew
   go_wp2_with fail
   clear l1 x0 x1 y0 y1 y4
   generalize w2.drew = w3 at *
   have l2 : (Instr.lookup 97 (.map (some mb)) (.string k.nm) false).run Tryz.prog w3.drew = .ok (ptr (zB7 R k.nm)) w3.drew := (h3.below (Below.refl _ w3).drew).look k.nm
   have x1 := h3.e1
   have x0 := h3.e0
   have y0 := C3.cell 0
   have y4 := C3.cell 4
   simp at y0 y4
   cases hn : zB7 R k.nm with
   | some m =>
     rw [hn] at l2
     simp only [ptr] at l2
     go_region
     go_wp2
     go_ret
     exact ⟨by rw [← HF.out]; simp [refZ, HZ.out, hn], B3.drew⟩
   | none =>
     rw [hn] at l2
     simp only [ptr] at l2
     go_region
     have h4 := h3.below (Below.refl _ w3).drew
     have C4 : Blk w3.drew w.heap.size #[.string k.nm, .string k.sup, .slice o1 k.pool.length c1, .slice o2 k.fs.length c2, .slice o3 k.ms.length c3] 31 := C3
     have B4 : Below w.heap.size w w3.drew := B3.drew
     have hch4 := hch.ext (zAi (Below.refl _ w3).drew)
     clear l2
     by_cases hlen : 32 ≤ R.length
     · have hlen' : (32 : Int) ≤ (R.length : Int) := by omega
       go_wp2
       go_ret
       exact ⟨by rw [← HF.out]; simp [refZ, HZ.out, hn, hlen], B4⟩
     have hlen' : ¬ (32 : Int) ≤ (R.length : Int) := by omega
     cases q with
     | none =>
       have hp0 : zB7 R k.sup = none := by
        rw [HP.out]
        cases ps with
        | none => rfl
        | some m => have := HQ.out; simp [ptr] at this
       go_wp2
       go_ret
       exact ⟨by rw [← HF.out]; simp [refZ, HZ.out, hn, hlen, hp0], B4⟩
     | some a =>
       have hp1 : (zB7 R k.sup).isNone = false := by
        rw [HP.out]
        cases ps with
        | none => have := HQ.out; simp [ptr] at this
        | some m => rfl
       have hA := D.zA0 (zO0 o3 c3 k.ms _ (k3.below B4 (fun _ _ h => h.below B4)))
       go_wp2_with fail
       generalize w3.drew = w4 at *
       refine hA.out.mono ?_
       rintro e w5 ⟨rfl, b5⟩
       cases ha : k.ms.any MD.nat
       · have y4' := (C4.below b5).cell 4
         simp at y4'
         have hB := D.zA0 (zOe ps (lin R k.sup) o3 c3 k.ms w5 (k3.below (next B4 b5) (fun _ _ h => h.below (next B4 b5))) (hch4.ext (zAi b5)))
         rw [HQ.out] at hB
         go_wp2_with fail
         refine hB.out.mono ?_
         rintro e w6 ⟨rfl, b6⟩
         cases hb : k.ms.any (zD7 (lin R k.sup))
         · go_wp2
           go_ret
           exact ⟨by rw [← HF.out]; simp [refZ, HZ.out, hn, hlen, hp1, ha, hb], next B4 (next b5 b6)⟩
         · go_wp2
           go_ret
           exact ⟨by rw [← HF.out]; simp [refZ, HZ.out, hn, hlen, hp1, ha, hb], next B4 (next b5 b6)⟩
       · go_wp2
         go_ret
         exact ⟨by rw [← HF.out]; simp [refZ, HZ.out, hn, hlen, hp1, ha], next B4 b5⟩
 · have hrf : zD8 k = rf := by rw [← HF.out]; simp [refZ, hz]
   clear HF
   generalize zD8 k = rz at *
   have hz' : (rz != 0) = true := by simpa using hz
   have HF := D.zA0 hrf
   clear hrf
   go_wp2
   go_ret
   exact ⟨by rw [HF.out]; rfl, B2⟩
theorem zIb : ∀ (l a : List MD), zE6 a l = 0 → ∀ m ∈ l, ∃ a', zFr m a' = 0
 | [], _, _, m, hm => by simp at hm
 | x :: l, a, h, m, hm => by
   unfold zE6 at h
   split at h
   · rename_i h0
     rcases List.mem_cons.1 hm with rfl | h'
     · exact ⟨a, h0⟩
     · exact zIb l _ h m h'
   · rename_i h0; exact absurd h h0
theorem zIs {m : MD} {a : List MD} (h : zFr m a = 0) : MSm m := by
 unfold zFr at h
 split at h; · omega
 split at h; · omega
 split at h; · omega
 rename_i h3
 split at h; · omega
 split at h; · omega
 rename_i h5
 unfold zH8 at h
 split at h; · omega
 split at h; · omega
 rename_i h6
 simp only [Bool.not_eq_false, Bool.and_eq_true, decide_eq_true_eq] at h3 h5 h6
 refine ⟨by omega, by omega, by omega, fun r hr => ?_⟩
 have := List.all_eq_true.1 h6 r hr
 simp only [zLa, Bool.and_eq_true, decide_eq_true_eq] at this
 omega
theorem zDn {k : KD} (h : zD8 k = 0) : KSm k := by
 unfold zD8 at h
 split at h; · omega
 split at h; · omega
 rename_i h2
 split at h; · omega
 split at h
 · simp only [Bool.not_eq_false, Bool.and_eq_true, decide_eq_true_eq] at h2
   exact ⟨by omega, by omega, by omega, fun m hm => by obtain ⟨a, ha⟩ := zIb k.ms [] h m hm; exact zIs ha⟩
 · rename_i h4; exact absurd h h4
theorem zJv {R : List Mem} {k : KD} (h : refZ R k = 0) : zD8 k = 0 ∧ zB7 R k.nm = none ∧ R.length < 32 ∧ (zB7 R k.sup).isSome = true := by
 unfold refZ at h
 by_cases hz : zD8 k = 0
 · rw [if_pos hz] at h
   split at h; · omega
   rename_i h1
   split at h; · omega
   split at h; · omega
   rename_i h2 h3
   exact ⟨hz, by simpa using h1, by omega, by cases hm : zB7 R k.sup <;> simp_all⟩
 · rw [if_neg hz] at h; exact absurd h hz
theorem KinO.below {n0 : Nat} {W W' : World} {pk mb : Nat} {v : Value} {R : List Mem} (h : KinO n0 W pk mb v R) (hb : Below W.heap.size W W') : KinO n0 W' pk mb v R :=
 ⟨h.hpk, h.hmb, h.box.below hb, zC0 h.own hb, h.map.kept (hb.block _ h.map.lt), h.mems.ext (zAl hb.size (fun b hb' hx => ⟨hx, hb.block b hb'⟩))⟩
theorem zHy (R : List Mem) : zCl R = zAw (fun j => [.string ((R.reverse.map fun m => m.k.nm).getD j ⟨#[]⟩)]) R.length := by
 refine List.ext_getElem? (fun y => ?_)
 have hk : ∀ j, j < R.length → ((fun j => [Value.string ((R.reverse.map fun m => m.k.nm).getD j ⟨#[]⟩)]) j).length = 1 := fun j _ => rfl
 by_cases hy : y < R.length
 · have := zA7 hk y hy 0 (by omega)
   rw [Nat.mul_one, Nat.add_zero] at this
   rw [this, List.getD_eq_getElem?_getD]
   simp [zCl, hy]
 · rw [List.getElem?_eq_none (by simp [zCl]; omega), List.getElem?_eq_none (by rw [zB4 hk]; omega)]
theorem KinO.view {n0 : Nat} {W : World} {pk mb : Nat} {v : Value} {R : List Mem} (h : KinO n0 W pk mb v R) : ∃ ao c, v = .slice ao R.length c ∧ KinV W pk R mb ao c := by
 have ho := h.own
 rw [zHy] at ho
 obtain ⟨ao, c, rfl, l1, l2, hr⟩ := zB6 ho (fun _ _ => rfl)
 have hM := h.mems.ext (zFi _ _)
 refine ⟨ao, c, rfl, ?_, ?_, h.map, hM, ?_⟩
 · rw [h.box.cell 0]; rfl
 · rw [h.box.cell 1]; rfl
 · have hlen : (R.reverse.map fun m => m.k.nm).length = R.length := by simp
   refine ⟨by rw [hlen]; exact l1, l2, fun j => [.string ((R.reverse.map fun m => m.k.nm).getD j ⟨#[]⟩)], by rw [hlen]; exact zAk.ext hr (zFi _ _), fun i x hx => ⟨?_, ?_⟩⟩
   · simp only [List.getD_eq_getElem?_getD, hx]; rfl
   · have hx' := List.mem_of_getElem? hx
     simp only [List.mem_map, List.mem_reverse] at hx'
     obtain ⟨m, hm, rfl⟩ := hx'
     obtain ⟨ab, _, _, _, _, _, _, hh⟩ := hM.at m hm
     exact hh.s1
def zRi (n0 : Nat) (w : World) (pk mb : Nat) (v : Value) (R : List Mem) (k : KD) (e : Ending) (w' : World) : Prop :=
 e = .returned (.int .i64 (refZ R k)) ∧ (if refZ R k = 0 then ∃ v' b, KinO n0 w' pk mb v' (⟨k, b⟩ :: R) ∧ zFm pk mb v w w' else Below w.heap.size w w')
def AddIsC (n0 : Nat) (w : World) (pk mb : Nat) (v : Value) (R : List Mem) (k : KD) (e : Ending) (w' : World) : Prop :=
 e = .returned (.int .i64 (refZ R k)) ∧ (if refZ R k = 0 then ∃ v' b, KinO n0 w' pk mb v' (⟨k, b⟩ :: R) ∧ zFm pk mb v w w' ∧ (∀ g, v'.ownBlock = some g → v.ownBlock = some g ∨ w.heap.size ≤ g) else Below w.heap.size w w')
def zHv (n0 : Nat) (w : World) (pk mb : Nat) (v : Value) (R : List Mem) (k : KD) (e : Ending) (w' : World) : Prop :=
 e = .returned (.int .i64 (refZ R k)) ∧ (if refZ R k = 0 then ∃ v' b, KinO n0 w' pk mb v' (⟨k, b⟩ :: R) ∧ zFm pk mb v w w' ∧ (∀ g, v'.ownBlock = some g → v.ownBlock = some g ∨ w.heap.size ≤ g) ∧ zF2 (seen (offG (newB w.heap.size) pk mb v') w') ⟨k, b⟩ (zB7 R k.sup) else Below w.heap.size w w')
theorem zJm (n0 : Nat) (w : World) (pk mb : Nat) (v : Value) (R : List Mem) (h : KinO n0 w pk mb v R) (k : KD) (cv : Value) (hc : zAp w cv k) :
 Calls Tryz.prog 12 #[.pointer (some ⟨pk, 0, none⟩), cv] w fun e w' => zHv n0 w pk mb v R k e w' := by
 have hc' := hc
 obtain ⟨o1, c1, o2, c2, o3, c3, rfl, z1, z2, k1, k2, k3⟩ := hc
 have B1 := zA9 w (.cells #[.string k.nm, .string k.sup, .slice o1 k.pool.length c1, .slice o2 k.fs.length c2, .slice o3 k.ms.length c3] 31)
 have C1 := Blk.new w #[.string k.nm, .string k.sup, .slice o1 k.pool.length c1, .slice o2 k.fs.length c2, .slice o3 k.ms.length c3] 31
 have h1 := h.below B1
 obtain ⟨ao, c, hv, hV⟩ := h1.view
 clear hv
 have hRf := D.zA0 (zMw _ pk R mb ao c hV k _ (hc'.below B1))
 clear hV
 by_cases hz : refZ R k = 0
 · obtain ⟨r1, r2, r3, -⟩ := zJv hz
   have hs := zDn r1
   have FIN : ∀ (w' : World) (v' : Value) (b : Nat), KinO n0 w' pk mb v' (⟨k, b⟩ :: R) → zFm pk mb v w w' → (∀ g, v'.ownBlock = some g → v.ownBlock = some g ∨ w.heap.size ≤ g) → zF2 (seen (offG (newB w.heap.size) pk mb v') w') ⟨k, b⟩ (zB7 R k.sup) → zHv n0 w pk mb v R k (.returned (.int .i64 0)) w' := fun w' v' b hk hst hown hmem => by
    unfold zHv
    rw [if_pos hz, hz]
    exact ⟨rfl, v', b, hk, hst, hown, hmem⟩
   have HFIN := D.zA0 FIN
   rw [hz] at hRf
   clear hz FIN
   generalize zHv n0 w pk mb v R k = AI at *
   go_enter Tryz.func12, Tryz.ntmps12
   go_wp2_with fail
   generalize w.alloc (.cells #[.string k.nm, .string k.sup, .slice o1 k.pool.length c1, .slice o2 k.fs.length c2, .slice o3 k.ms.length c3] 31) = W1 at *
   refine hRf.out.mono ?_
   rintro e w2 ⟨rfl, b2⟩
   have C2 := C1.below b2
   have B2 := next B1 b2
   have y0 := C2.cell 0
   have y1 := C2.cell 1
   have y2 := C2.cell 2
   have y3 := C2.cell 3
   have y4 := C2.cell 4
   simp at y0 y1 y2 y3 y4
   have hcp := D.zA0 (copyC k _ w2 (hc'.below B2) hs)
   go_wp2_with fail
   refine hcp.out.mono ?_
   rintro e w3 ⟨b3, v3, rfl, hc3⟩
   have h3 := (h1.below b2).below b3
   have hpk := (h1.below b2).box.lt
   have hmb := (h1.below b2).map.lt
   have hvb := (h1.below b2).own.lt
   have hw2' := B2.size
   have hE : Ext (seen (newB w2.heap.size) w3) (seen (offG (newB w.heap.size) pk mb v) w3) := zAl (Nat.le_refl _) (fun b _ hb => by
    simp only [newB, decide_eq_true_eq] at hb
    exact ⟨zCd.2 ⟨zCr.2 ⟨by omega, by omega, fun e => by have := (hvb b e).2; omega⟩, by simp only [newB, decide_eq_true_eq]; omega⟩, rfl⟩)
   have hw3 := b3.size
   have hw2 := B2.size
   have hP := D.zA0 (zJz n0 w3 pk mb v R h3 k v3 (newB w.heap.size) (fun b hb => by simp only [newB, decide_eq_true_eq]; omega) (zAp.ext hE hc3) r2 (by omega))
   obtain ⟨_, _, _, _, _, _, rfl, _⟩ := hc3
   go_wp2_with fail
   refine hP.out.mono ?_
   rintro e w4 ⟨⟨u, rfl⟩, v4, b4, hK, hst, hown, hmem⟩
   go_wp2
   have B3 := next B2 b3
   refine HFIN.out w4 v4 b4 hK ⟨hst.os.trans B3.os, hst.tape.trans B3.tape, hst.output.trans B3.output, Nat.le_trans B3.size hst.size, fun b hb x1 x2 x3 => ?_⟩ (fun g hg => (hown g hg).imp id (fun h => Nat.le_trans B3.size h)) hmem
   rw [hst.block b (Nat.lt_of_lt_of_le hb B3.size) x1 x2 x3, B3.block b hb]
 · have FIN : ∀ (w' : World), Below w.heap.size w w' → zHv n0 w pk mb v R k (.returned (.int .i64 (refZ R k))) w' := fun w' hb => by
    unfold zHv
    rw [if_neg hz]
    exact ⟨rfl, hb⟩
   have HFIN := D.zA0 FIN
   clear FIN
   generalize zHv n0 w pk mb v R k = AI at *
   generalize refZ R k = rz at *
   have hz' : (rz != 0) = true := by simpa using hz
   go_enter Tryz.func12, Tryz.ntmps12
   go_wp2_with fail
   generalize w.alloc (.cells #[.string k.nm, .string k.sup, .slice o1 k.pool.length c1, .slice o2 k.fs.length c2, .slice o3 k.ms.length c3] 31) = W1 at *
   refine hRf.out.mono ?_
   rintro e w2 ⟨rfl, b2⟩
   go_wp2
   exact HFIN.out w2 (next B1 b2)
theorem zPz (n0 : Nat) (w : World) (pk mb : Nat) (v : Value) (R : List Mem) (h : KinO n0 w pk mb v R) (k : KD) (cv : Value) (hc : zAp w cv k) :
 Calls Tryz.prog 12 #[.pointer (some ⟨pk, 0, none⟩), cv] w fun e w' => AddIsC n0 w pk mb v R k e w' := by
 refine (zJm n0 w pk mb v R h k cv hc).mono ?_
 rintro e w' ⟨he, h⟩
 refine ⟨he, ?_⟩
 split
 · rename_i hz
   rw [if_pos hz] at h
   obtain ⟨v', b, h1, h2, h3, _⟩ := h
   exact ⟨v', b, h1, h2, h3⟩
 · rename_i hz
   rw [if_neg hz] at h
   exact h
theorem zNi (n0 : Nat) (w : World) (pk mb : Nat) (v : Value) (R : List Mem) (h : KinO n0 w pk mb v R) (k : KD) (cv : Value) (hc : zAp w cv k) :
 Calls Tryz.prog 12 #[.pointer (some ⟨pk, 0, none⟩), cv] w fun e w' => zRi n0 w pk mb v R k e w' := by
 refine (zPz n0 w pk mb v R h k cv hc).mono ?_
 rintro e w' ⟨he, h⟩
 refine ⟨he, ?_⟩
 split
 · rename_i hz
   rw [if_pos hz] at h
   obtain ⟨v', b, h1, h2, _⟩ := h
   exact ⟨v', b, h1, h2⟩
 · rename_i hz
   rw [if_neg hz] at h
   exact h
end Go.Proofs.YtpehimfnkmepnaaGreat.K
