/- Texts KT KV KW. -/
import Derived.Test.YtbmfkbgncjldjabGreatBu28
import Derived.Test.YtbmfkbgncjldjabGreatBu30
import Derived.Test.YtbmfkbgncjldjabGreatBu31
namespace Go.Proofs.YtbmfkbgncjldjabGreat.K
open Go.RowKit Q Q.D

theorem mfind_mem : ∀ {R : List Mem} {s : ByteArray} {m : Mem}, mfind R s = some m → m ∈ R ∧ m.k.nm = s
  | x :: R, s, m, h => by
    unfold mfind at h
    split at h
    · rename_i hb; cases h; exact ⟨by simp, ((MapKept.bytes_beq _ _).1 hb).symm⟩
    · obtain ⟨h1, h2⟩ := mfind_mem h; exact ⟨by simp [h1], h2⟩
theorem Mems.at {w : World} : ∀ {R : List Mem}, Mems w R → ∀ m ∈ R, ∃ ab, MemIn w m ab
  | x :: R, ⟨h1, _, h3⟩, m, hm => by
    rcases List.mem_cons.1 hm with rfl | h
    · exact ⟨_, h1⟩
    · exact h3.at m h

set_option maxRecDepth 8000 in
set_option maxHeartbeats 2000000 in
theorem names_any (w : World) (pk : Nat) (R : List Mem) (mb : Nat) (ao : Option Addr) (c : Nat) (h : KinV w pk R mb ao c) (hR : R.length ≤ 1000) :
    Calls Tryz.prog 8 #[.pointer (some ⟨pk, 0, none⟩)] w fun e w' => Below w.heap.size w w' ∧ ∃ v', e = .returned v' ∧ w'.ownsRow w.heap.size 9 1 v' R.length (R.reverse.map fun m => .string m.k.nm) := by
  have e0 := h.e0
  obtain ⟨_, _, rows, h3, h4⟩ := h.names
  have hlen : (R.reverse.map fun m => m.k.nm).length = R.length := by simp
  rw [hlen] at h3
  have hrow : ∀ j, j < R.length → rows j = [.string ((R.reverse.map fun m => m.k.nm).getD j ⟨#[]⟩)] := fun j hj => by
    have := (h4 j _ (List.getElem?_eq_getElem (by rw [hlen]; exact hj))).1
    rw [this, List.getD_eq_getElem?_getD, List.getElem?_eq_getElem (by rw [hlen]; exact hj)]; rfl
  have hfl : flatR rows R.length = R.reverse.map fun m => .string m.k.nm := by
    refine List.ext_getElem? (fun y => ?_)
    have hk : ∀ j, j < R.length → (rows j).length = 1 := fun j hj => by rw [hrow j hj]; rfl
    by_cases hy : y < R.length
    · have := flatR_at hk y hy 0 (by omega)
      rw [Nat.mul_one, Nat.add_zero, hrow y hy] at this
      rw [this, List.getD_eq_getElem?_getD]
      simp [hy]
    · rw [List.getElem?_eq_none (by rw [flatR_len hk]; omega), List.getElem?_eq_none (by simp; omega)]
  have hC := D.hidIt (cloneS w ao R.length c rows h3 (fun j hj => by rw [hrow j hj]; rfl) (fun j hj u hu => by rw [hrow j hj] at hu; simp at hu; subst hu; rfl) (by omega))
  rw [hfl] at hC
  go_enter Tryz.func8, Tryz.ntmps8
  go_wp2_with (go_at_call 21; refine hC.out.mono ?_; rintro e w' ⟨hb', v', rfl, ho⟩)
  go_ret
  exact ⟨hb', _, rfl, ho⟩

theorem results_rowb {fn : Func} {p t1 : Tmp} {ty : TypeId} (h : fn.results = #[.cell p ty, .tmp t1]) (tmps : Array Value) (w : World) (g : Nat) (t : TypeId) (cs : Array Value) (fr : Nat × Nat) (d : TypeDesc)
    (hp : tmps.getD p undef = .pointer (some ⟨g, 0, none⟩)) (hg : w.heap[g]? = some (.cells cs t fr))
    (hu : Tryz.prog.underlying ty = some d) (hd : (match d with | .struct _ | .array _ _ => true | _ => false) = true) (hi : (Tryz.prog.info? ty).map (·.size) = some cs.size) :
    (results fn tmps).run Tryz.prog w = .ok (.tuple #[.agg cs, tmps.getD t1 undef]) w := by
  have hp' : tmps[p]?.getD undef = .pointer (some ⟨g, 0, none⟩) := by simpa using hp
  have hL := run_loadVar_row (P := Tryz.prog) w g t ty cs fr d hg hu (by cases d <;> simp_all) hi
  simp [results, h, hp', asAddr, hL, Result.andThen]
theorem results_mid {fn : Func} {p t1 t2 : Tmp} {ty : TypeId} (h : fn.results = #[.tmp t1, .cell p ty, .tmp t2]) (tmps : Array Value) (w : World) (g : Nat) (t : TypeId) (cs : Array Value) (fr : Nat × Nat) (d : TypeDesc)
    (hp : tmps.getD p undef = .pointer (some ⟨g, 0, none⟩)) (hg : w.heap[g]? = some (.cells cs t fr))
    (hu : Tryz.prog.underlying ty = some d) (hd : (match d with | .struct _ | .array _ _ => true | _ => false) = true) (hi : (Tryz.prog.info? ty).map (·.size) = some cs.size) :
    (results fn tmps).run Tryz.prog w = .ok (.tuple #[tmps.getD t1 undef, .agg cs, tmps.getD t2 undef]) w := by
  have hp' : tmps[p]?.getD undef = .pointer (some ⟨g, 0, none⟩) := by simpa using hp
  have hL := run_loadVar_row (P := Tryz.prog) w g t ty cs fr d hg hu (by cases d <;> simp_all) hi
  simp [results, h, hp', asAddr, hL, Result.andThen]
theorem ClassV.ext {w w' : World} (he : Ext w w') {v : Value} {k : KD} (h : ClassV w v k) : ClassV w' v k := by
  obtain ⟨o1, c1, o2, c2, o3, c3, e, s1, s2, h1, h2, h3⟩ := h
  exact ⟨o1, c1, o2, c2, o3, c3, e, s1, s2, LAt.ext h1 he (fun _ _ h => h), LAt.ext h2 he (fun _ _ h => h), LAt.ext h3 he (fun _ _ h => MethR.ext he h)⟩
def GetIs (w w' : World) (o : Option Mem) (e : Ending) : Prop :=
  match o with
  | none => e = .returned (.tuple #[.agg #[.string ⟨#[]⟩, .string ⟨#[]⟩, .slice none 0 0, .slice none 0 0, .slice none 0 0], .bool false])
  | some m => ∃ v', e = .returned (.tuple #[v', .bool true]) ∧ ClassV (seen (newB w.heap.size) w') v' m.k

set_option maxRecDepth 8000 in
set_option maxHeartbeats 2000000 in
theorem get_any (w : World) (pk : Nat) (R : List Mem) (mb : Nat) (ao : Option Addr) (c : Nat) (h : KinV w pk R mb ao c) (hsm : ∀ m ∈ R, KSm m.k) (s : ByteArray) :
    Calls Tryz.prog 11 #[.pointer (some ⟨pk, 0, none⟩), .string s] w fun e w' => Below w.heap.size w w' ∧ GetIs w w' (mfind R s) e := by
  have B1 := balloc w (.cells #[.string ⟨#[]⟩, .string ⟨#[]⟩, .slice none 0 0, .slice none 0 0, .slice none 0 0] 33)
  have h1 := h.below B1
  have hl := h1.look s
  have e1 := h1.e1
  have Y1 := Blk.new w #[.string ⟨#[]⟩, .string ⟨#[]⟩, .slice none 0 0, .slice none 0 0, .slice none 0 0] 33
  cases hm : mfind R s with
  | none =>
    rw [hm] at hl
    simp only [ptr] at hl
    go_enter Tryz.func11, Tryz.ntmps11
    go_wp2
    go_returns
    exact ⟨B1, rfl⟩
  | some m =>
    rw [hm] at hl
    simp only [ptr] at hl
    obtain ⟨hmR, -⟩ := mfind_mem hm
    obtain ⟨ab, o1, c1, o2, c2, o3, c3, hM⟩ := h1.mems.at m hmR
    have hcp := D.hidIt (copyC m.k _ _ hM.cls (hsm m hmR))
    have y0 := hM.e0
    have y1 := hM.e1
    have y2 := hM.e2
    have y3 := hM.e3
    have y4 := hM.e4
    clear hM
    go_enter Tryz.func11, Tryz.ntmps11
    go_wp2_with fail
    generalize w.alloc (.cells #[.string ⟨#[]⟩, .string ⟨#[]⟩, .slice none 0 0, .slice none 0 0, .slice none 0 0] 33) = W1 at *
    refine hcp.out.mono ?_
    rintro e w2 ⟨b2, v2, rfl, hc2⟩
    have hc := hc2
    obtain ⟨p1, q1, p2, q2, p3, q3, rfl, _⟩ := hc2
    have Y2 := Y1.below b2
    go_wp2_with (refine wpList_store_row rfl 33 _ _ rfl w.heap.size #[.string m.k.nm, .string m.k.sup, .slice p1 m.k.pool.length q1, .slice p2 m.k.fs.length q2, .slice p3 m.k.ms.length q3] rfl rfl 33 _ Y2 (by kernel_rfl) rfl (by simp [Value.oneCell']) ?_)
    refine bodyPost_ret (results_rowb rfl _ _ w.heap.size 33 _ (0, 0) _ rfl (setRow_heap _ _ _ _ _ _ Y2) Tryz.underlying33 rfl (by kernel_rfl)) rfl ?_
    have hs1 := B1.size
    have hY := Y1.lt
    have Eb : Ext (seen (newB W1.heap.size) w2) (seen (newB w.heap.size) (w2.setRow w.heap.size #[.string m.k.nm, .string m.k.sup, .slice p1 m.k.pool.length q1, .slice p2 m.k.fs.length q2, .slice p3 m.k.ms.length q3])) :=
      seen_mono (by simp [World.setRow]) (fun b _ hb => by
        simp only [newB, decide_eq_true_eq] at hb
        exact ⟨by simp [newB]; omega, setRow_other _ _ _ _ (by omega)⟩)
    exact ⟨below_row (next B1 b2) (Nat.le_refl _) _, _, rfl, ClassV.ext Eb hc⟩
end Go.Proofs.YtbmfkbgncjldjabGreat.K
namespace Go.Proofs.YtbmfkbgncjldjabGreat.K
open Go.RowKit Go.ChangeMaps Q Q.D

def refZ (R : List Mem) (k : KD) : Int :=
  if rightZ k = 0 then
    (if (mfind R k.nm).isSome then 23 else if 32 ≤ R.length then 4 else if (mfind R k.sup).isNone then 22 else if k.ms.any MD.nat then 12 else if k.ms.any (contraB (lin R k.sup)) then 23 else 0)
  else rightZ k
theorem anyContra (p : Option Mem) (xs : List Mem) (ao : Option Addr) (c : Nat) (l : List MD) (w : World) (h : LAt 9 MethR w ao c l) (hch : Chain w p xs) :
    Calls Tryz.prog 33 #[.slice ao l.length c, .func (.func 35) #[ptr p] #[]] w fun e w' => e = .returned (.bool (l.any (contraB xs))) ∧ Below w.heap.size w w' := by
  have hbig := h.big
  obtain ⟨h1, h2, rows, h3, h4⟩ := h
  have := hasB Tryz.hasM 9 Tryz.isAgg48 Tryz.sizeOf48 rows l.length (fun j hj => by obtain ⟨_, _, _, _, _, _, e, _⟩ := h4 j l[j] (List.getElem?_eq_getElem hj); rw [e]; rfl) (fun j => contraB xs (l.getD j ⟨⟨#[]⟩, ⟨#[]⟩, false, false, 0, 0, [], [], []⟩)) 35 (ptr p) (enters_of Tryz.func35 (by kernel_rfl) rfl) ao c w (fun W j hj hW => by
    have e : l.getD j ⟨⟨#[]⟩, ⟨#[]⟩, false, false, 0, 0, [], [], []⟩ = l[j] := by simp [List.getD_eq_getElem?_getD, List.getElem?_eq_getElem hj]
    obtain ⟨_, _, _, _, _, _, er, _⟩ := h4 j l[j] (List.getElem?_eq_getElem hj)
    rw [e, er]
    refine (contra_any l[j] _ _ _ _ _ _ _ _ _ W p xs (hch.ext (ext_below hW))).mono ?_
    rintro e w' ⟨rfl, hb⟩
    exact ⟨rfl, next hW hb⟩) hbig h3
  rw [anyN_list l _ (contraB xs) (fun i x hx => by rw [List.getD_eq_getElem?_getD, hx]; rfl)] at this
  exact this

set_option maxRecDepth 8000 in
set_option maxHeartbeats 4000000 in
theorem refuse_any (w : World) (pk : Nat) (R : List Mem) (mb : Nat) (ao : Option Addr) (c : Nat) (h : KinV w pk R mb ao c) (k : KD) (cv : Value) (hc : ClassV w cv k) :
    Calls Tryz.prog 19 #[.pointer (some ⟨pk, 0, none⟩), cv] w fun e w' => e = .returned (.int .i64 (refZ R k)) ∧ Below w.heap.size w w' := by
  have hc' := hc
  obtain ⟨o1, c1, o2, c2, o3, c3, rfl, z1, z2, k1, k2, k3⟩ := hc
  have B1 := balloc w (.cells #[.string k.nm, .string k.sup, .slice o1 k.pool.length c1, .slice o2 k.fs.length c2, .slice o3 k.ms.length c3] 33)
  have C1 := Blk.new w #[.string k.nm, .string k.sup, .slice o1 k.pool.length c1, .slice o2 k.fs.length c2, .slice o3 k.ms.length c3] 33
  have hRt := D.hidIt (right_class k _ _ (hc'.below B1))
  obtain ⟨rf, hrf⟩ : ∃ rf, refZ R k = rf := ⟨_, rfl⟩
  rw [hrf]
  have HF := D.hidIt hrf
  clear hrf
  go_enter Tryz.func19, Tryz.ntmps19
  go_wp2_with fail
  generalize w.alloc (.cells #[.string k.nm, .string k.sup, .slice o1 k.pool.length c1, .slice o2 k.fs.length c2, .slice o3 k.ms.length c3] 33) = W1 at *
  refine hRt.out.mono ?_
  rintro e w2 ⟨rfl, b2⟩
  have B2 := next B1 b2
  have h2 := h.below B2
  have C2 := C1.below b2
  by_cases hz : rightZ k = 0
  · have HZ := D.hidIt hz
    rw [hz]
    clear hz
    have x1 := h2.e1
    have x0 := h2.e0
    have y0 := C2.cell 0
    have y1 := C2.cell 1
    have y4 := C2.cell 4
    simp at y0 y1 y4
    have l1 : (Instr.lookup 55 (.map (some mb)) (.string k.sup) false).run Tryz.prog w2.drew = .ok (ptr (mfind R k.sup)) w2.drew := (h2.below (Below.refl _ w2).drew).look k.sup
    have hch := (h2.below (Below.refl _ w2).drew).mems.chain k.sup
    obtain ⟨ps, hps⟩ : ∃ ps, mfind R k.sup = ps := ⟨_, rfl⟩
    rw [hps] at l1 hch
    have HP := D.hidIt hps
    clear hps
    obtain ⟨q, hq⟩ : ∃ q, ptr ps = .pointer q := by cases ps <;> exact ⟨_, rfl⟩
    rw [hq] at l1
    have HQ := D.hidIt hq
    clear hq
    go_wp2_with fail
    go_region
    have h3 := h2.below (Below.refl _ w2).drew
    have C3 : Blk w2.drew w.heap.size #[.string k.nm, .string k.sup, .slice o1 k.pool.length c1, .slice o2 k.fs.length c2, .slice o3 k.ms.length c3] 33 := C2
    have B3 : Below w.heap.size w w2.drew := B2.drew
    go_wp2_with fail
    clear l1 x0 x1 y0 y1 y4
    generalize w2.drew = w3 at *
    have l2 : (Instr.lookup 55 (.map (some mb)) (.string k.nm) false).run Tryz.prog w3.drew = .ok (ptr (mfind R k.nm)) w3.drew := (h3.below (Below.refl _ w3).drew).look k.nm
    have x1 := h3.e1
    have x0 := h3.e0
    have y0 := C3.cell 0
    have y4 := C3.cell 4
    simp at y0 y4
    cases hn : mfind R k.nm with
    | some m =>
      rw [hn] at l2
      simp only [ptr] at l2
      go_region
      go_wp2
      go_ret
      exact ⟨by rw [← HF.out]; simp [refZ, HZ.out, hn], B3.drew⟩
    | none =>
      rw [hn] at l2
      simp only [ptr] at l2
      go_region
      have h4 := h3.below (Below.refl _ w3).drew
      have C4 : Blk w3.drew w.heap.size #[.string k.nm, .string k.sup, .slice o1 k.pool.length c1, .slice o2 k.fs.length c2, .slice o3 k.ms.length c3] 33 := C3
      have B4 : Below w.heap.size w w3.drew := B3.drew
      have hch4 := hch.ext (ext_below (Below.refl _ w3).drew)
      clear l2
      by_cases hlen : 32 ≤ R.length
      · have hlen' : (32 : Int) ≤ (R.length : Int) := by omega
        go_wp2
        go_ret
        exact ⟨by rw [← HF.out]; simp [refZ, HZ.out, hn, hlen], B4⟩
      have hlen' : ¬ (32 : Int) ≤ (R.length : Int) := by omega
      cases q with
      | none =>
        have hp0 : mfind R k.sup = none := by
          rw [HP.out]
          cases ps with
          | none => rfl
          | some m => have := HQ.out; simp [ptr] at this
        go_wp2
        go_ret
        exact ⟨by rw [← HF.out]; simp [refZ, HZ.out, hn, hlen, hp0], B4⟩
      | some a =>
        have hp1 : (mfind R k.sup).isNone = false := by
          rw [HP.out]
          cases ps with
          | none => have := HQ.out; simp [ptr] at this
          | some m => rfl
        have hA := D.hidIt (anyNative o3 c3 k.ms _ (k3.below B4 (fun _ _ h => h.below B4)))
        go_wp2_with fail
        generalize w3.drew = w4 at *
        refine hA.out.mono ?_
        rintro e w5 ⟨rfl, b5⟩
        cases ha : k.ms.any MD.nat
        · have y4' := (C4.below b5).cell 4
          simp at y4'
          have hB := D.hidIt (anyContra ps (lin R k.sup) o3 c3 k.ms w5 (k3.below (next B4 b5) (fun _ _ h => h.below (next B4 b5))) (hch4.ext (ext_below b5)))
          rw [HQ.out] at hB
          go_wp2_with fail
          refine hB.out.mono ?_
          rintro e w6 ⟨rfl, b6⟩
          cases hb : k.ms.any (contraB (lin R k.sup))
          · go_wp2
            go_ret
            exact ⟨by rw [← HF.out]; simp [refZ, HZ.out, hn, hlen, hp1, ha, hb], next B4 (next b5 b6)⟩
          · go_wp2
            go_ret
            exact ⟨by rw [← HF.out]; simp [refZ, HZ.out, hn, hlen, hp1, ha, hb], next B4 (next b5 b6)⟩
        · go_wp2
          go_ret
          exact ⟨by rw [← HF.out]; simp [refZ, HZ.out, hn, hlen, hp1, ha], next B4 b5⟩
  · have hrf : rightZ k = rf := by rw [← HF.out]; simp [refZ, hz]
    clear HF
    generalize rightZ k = rz at *
    have hz' : (rz != 0) = true := by simpa using hz
    have HF := D.hidIt hrf
    clear hrf
    go_wp2
    go_ret
    exact ⟨by rw [HF.out]; rfl, B2⟩
end Go.Proofs.YtbmfkbgncjldjabGreat.K
namespace Go.Proofs.YtbmfkbgncjldjabGreat.K
open Go.RowKit Go.ChangeMaps Q Q.D

theorem methsZ_all : ∀ (l a : List MD), methsZ a l = 0 → ∀ m ∈ l, ∃ a', methZ m a' = 0
  | [], _, _, m, hm => by simp at hm
  | x :: l, a, h, m, hm => by
    unfold methsZ at h
    split at h
    · rename_i h0
      rcases List.mem_cons.1 hm with rfl | h'
      · exact ⟨a, h0⟩
      · exact methsZ_all l _ h m h'
    · rename_i h0; exact absurd h h0
theorem small_of_meth {m : MD} {a : List MD} (h : methZ m a = 0) : MSm m := by
  unfold methZ at h
  split at h; · omega
  split at h; · omega
  split at h; · omega
  rename_i h3
  split at h; · omega
  split at h; · omega
  rename_i h5
  unfold marksZ at h
  split at h; · omega
  split at h; · omega
  rename_i h6
  simp only [Bool.not_eq_false, Bool.and_eq_true, decide_eq_true_eq] at h3 h5 h6
  refine ⟨by omega, by omega, by omega, fun r hr => ?_⟩
  have := List.all_eq_true.1 h6 r hr
  simp only [sizeB, Bool.and_eq_true, decide_eq_true_eq] at this
  omega
theorem small_of_right {k : KD} (h : rightZ k = 0) : KSm k := by
  unfold rightZ at h
  split at h; · omega
  split at h; · omega
  rename_i h2
  split at h; · omega
  split at h
  · simp only [Bool.not_eq_false, Bool.and_eq_true, decide_eq_true_eq] at h2
    exact ⟨by omega, by omega, by omega, fun m hm => by obtain ⟨a, ha⟩ := methsZ_all k.ms [] h m hm; exact small_of_meth ha⟩
  · rename_i h4; exact absurd h h4
theorem refZ_zero {R : List Mem} {k : KD} (h : refZ R k = 0) : rightZ k = 0 ∧ mfind R k.nm = none ∧ R.length < 32 ∧ (mfind R k.sup).isSome = true := by
  unfold refZ at h
  by_cases hz : rightZ k = 0
  · rw [if_pos hz] at h
    split at h; · omega
    rename_i h1
    split at h; · omega
    split at h; · omega
    rename_i h2 h3
    exact ⟨hz, by simpa using h1, by omega, by cases hm : mfind R k.sup <;> simp_all⟩
  · rw [if_neg hz] at h; exact absurd h hz

theorem KinO.below {n0 : Nat} {W W' : World} {pk mb : Nat} {v : Value} {R : List Mem} (h : KinO n0 W pk mb v R) (hb : Below W.heap.size W W') : KinO n0 W' pk mb v R :=
  ⟨h.hpk, h.hmb, h.box.below hb, own_keep h.own hb, h.map.kept (hb.block _ h.map.lt), h.mems.ext (seen_mono hb.size (fun b hb' hx => ⟨hx, hb.block b hb'⟩))⟩
theorem nameCells_flat (R : List Mem) : nameCells R = flatR (fun j => [.string ((R.reverse.map fun m => m.k.nm).getD j ⟨#[]⟩)]) R.length := by
  refine List.ext_getElem? (fun y => ?_)
  have hk : ∀ j, j < R.length → ((fun j => [Value.string ((R.reverse.map fun m => m.k.nm).getD j ⟨#[]⟩)]) j).length = 1 := fun j _ => rfl
  by_cases hy : y < R.length
  · have := flatR_at hk y hy 0 (by omega)
    rw [Nat.mul_one, Nat.add_zero] at this
    rw [this, List.getD_eq_getElem?_getD]
    simp [nameCells, hy]
  · rw [List.getElem?_eq_none (by simp [nameCells]; omega), List.getElem?_eq_none (by rw [flatR_len hk]; omega)]
theorem KinO.view {n0 : Nat} {W : World} {pk mb : Nat} {v : Value} {R : List Mem} (h : KinO n0 W pk mb v R) : ∃ ao c, v = .slice ao R.length c ∧ KinV W pk R mb ao c := by
  have ho := h.own
  rw [nameCells_flat] at ho
  obtain ⟨ao, c, rfl, l1, l2, hr⟩ := own_rows ho (fun _ _ => rfl)
  have hM := h.mems.ext (seen_ext _ _)
  refine ⟨ao, c, rfl, ?_, ?_, h.map, hM, ?_⟩
  · rw [h.box.cell 0]; rfl
  · rw [h.box.cell 1]; rfl
  · have hlen : (R.reverse.map fun m => m.k.nm).length = R.length := by simp
    refine ⟨by rw [hlen]; exact l1, l2, fun j => [.string ((R.reverse.map fun m => m.k.nm).getD j ⟨#[]⟩)], by rw [hlen]; exact RowsAt.ext hr (seen_ext _ _), fun i x hx => ⟨?_, ?_⟩⟩
    · simp only [List.getD_eq_getElem?_getD, hx]; rfl
    · have hx' := List.mem_of_getElem? hx
      simp only [List.mem_map, List.mem_reverse] at hx'
      obtain ⟨m, hm, rfl⟩ := hx'
      obtain ⟨ab, _, _, _, _, _, _, hh⟩ := hM.at m hm
      exact hh.s1

def AddIs (n0 : Nat) (w : World) (pk mb : Nat) (v : Value) (R : List Mem) (k : KD) (e : Ending) (w' : World) : Prop :=
  e = .returned (.int .i64 (refZ R k)) ∧ (if refZ R k = 0 then ∃ v' b, KinO n0 w' pk mb v' (⟨k, b⟩ :: R) ∧ KStep pk mb v w w' else Below w.heap.size w w')

def AddIsC (n0 : Nat) (w : World) (pk mb : Nat) (v : Value) (R : List Mem) (k : KD) (e : Ending) (w' : World) : Prop :=
  e = .returned (.int .i64 (refZ R k)) ∧ (if refZ R k = 0 then ∃ v' b, KinO n0 w' pk mb v' (⟨k, b⟩ :: R) ∧ KStep pk mb v w w' ∧ (∀ g, v'.ownBlock = some g → v.ownBlock = some g ∨ w.heap.size ≤ g) else Below w.heap.size w w')

set_option maxRecDepth 8000 in
set_option maxHeartbeats 4000000 in
theorem add_core (n0 : Nat) (w : World) (pk mb : Nat) (v : Value) (R : List Mem) (h : KinO n0 w pk mb v R) (k : KD) (cv : Value) (hc : ClassV w cv k) :
    Calls Tryz.prog 7 #[.pointer (some ⟨pk, 0, none⟩), cv] w fun e w' => AddIsC n0 w pk mb v R k e w' := by
  have hc' := hc
  obtain ⟨o1, c1, o2, c2, o3, c3, rfl, z1, z2, k1, k2, k3⟩ := hc
  have B1 := balloc w (.cells #[.string k.nm, .string k.sup, .slice o1 k.pool.length c1, .slice o2 k.fs.length c2, .slice o3 k.ms.length c3] 33)
  have C1 := Blk.new w #[.string k.nm, .string k.sup, .slice o1 k.pool.length c1, .slice o2 k.fs.length c2, .slice o3 k.ms.length c3] 33
  have h1 := h.below B1
  obtain ⟨ao, c, hv, hV⟩ := h1.view
  clear hv
  have hRf := D.hidIt (refuse_any _ pk R mb ao c hV k _ (hc'.below B1))
  clear hV
  by_cases hz : refZ R k = 0
  · obtain ⟨r1, r2, r3, -⟩ := refZ_zero hz
    have hs := small_of_right r1
    have FIN : ∀ (w' : World) (v' : Value) (b : Nat), KinO n0 w' pk mb v' (⟨k, b⟩ :: R) → KStep pk mb v w w' → (∀ g, v'.ownBlock = some g → v.ownBlock = some g ∨ w.heap.size ≤ g) → AddIsC n0 w pk mb v R k (.returned (.int .i64 0)) w' := fun w' v' b hk hst hown => by
      unfold AddIsC
      rw [if_pos hz, hz]
      exact ⟨rfl, v', b, hk, hst, hown⟩
    have HFIN := D.hidIt FIN
    rw [hz] at hRf
    clear hz FIN
    generalize AddIsC n0 w pk mb v R k = AI at *
    go_enter Tryz.func7, Tryz.ntmps7
    go_wp2_with fail
    generalize w.alloc (.cells #[.string k.nm, .string k.sup, .slice o1 k.pool.length c1, .slice o2 k.fs.length c2, .slice o3 k.ms.length c3] 33) = W1 at *
    refine hRf.out.mono ?_
    rintro e w2 ⟨rfl, b2⟩
    have C2 := C1.below b2
    have B2 := next B1 b2
    have y0 := C2.cell 0
    have y1 := C2.cell 1
    have y2 := C2.cell 2
    have y3 := C2.cell 3
    have y4 := C2.cell 4
    simp at y0 y1 y2 y3 y4
    have hcp := D.hidIt (copyC k _ w2 (hc'.below B2) hs)
    go_wp2_with fail
    refine hcp.out.mono ?_
    rintro e w3 ⟨b3, v3, rfl, hc3⟩
    have h3 := (h1.below b2).below b3
    have hpk := (h1.below b2).box.lt
    have hmb := (h1.below b2).map.lt
    have hvb := (h1.below b2).own.lt
    have hE : Ext (seen (newB w2.heap.size) w3) (seen (offK pk mb v) w3) := seen_mono (Nat.le_refl _) (fun b _ hb => by
      simp only [newB, decide_eq_true_eq] at hb
      exact ⟨offK_iff.2 ⟨by omega, by omega, fun e => by have := (hvb b e).2; omega⟩, rfl⟩)
    have hP := D.hidIt (put_core n0 w3 pk mb v R h3 k v3 (ClassV.ext hE hc3) r2 (by omega))
    obtain ⟨_, _, _, _, _, _, rfl, _⟩ := hc3
    go_wp2_with fail
    refine hP.out.mono ?_
    rintro e w4 ⟨⟨u, rfl⟩, v4, b4, hK, hst, hown⟩
    go_wp2
    have B3 := next B2 b3
    refine HFIN.out w4 v4 b4 hK ⟨hst.os.trans B3.os, hst.tape.trans B3.tape, hst.output.trans B3.output, Nat.le_trans B3.size hst.size, fun b hb x1 x2 x3 => ?_⟩ (fun g hg => (hown g hg).imp id (fun h => Nat.le_trans B3.size h))
    rw [hst.block b (Nat.lt_of_lt_of_le hb B3.size) x1 x2 x3, B3.block b hb]
  · have FIN : ∀ (w' : World), Below w.heap.size w w' → AddIsC n0 w pk mb v R k (.returned (.int .i64 (refZ R k))) w' := fun w' hb => by
      unfold AddIsC
      rw [if_neg hz]
      exact ⟨rfl, hb⟩
    have HFIN := D.hidIt FIN
    clear FIN
    generalize AddIsC n0 w pk mb v R k = AI at *
    generalize refZ R k = rz at *
    have hz' : (rz != 0) = true := by simpa using hz
    go_enter Tryz.func7, Tryz.ntmps7
    go_wp2_with fail
    generalize w.alloc (.cells #[.string k.nm, .string k.sup, .slice o1 k.pool.length c1, .slice o2 k.fs.length c2, .slice o3 k.ms.length c3] 33) = W1 at *
    refine hRf.out.mono ?_
    rintro e w2 ⟨rfl, b2⟩
    go_wp2
    exact HFIN.out w2 (next B1 b2)
theorem add_any (n0 : Nat) (w : World) (pk mb : Nat) (v : Value) (R : List Mem) (h : KinO n0 w pk mb v R) (k : KD) (cv : Value) (hc : ClassV w cv k) :
    Calls Tryz.prog 7 #[.pointer (some ⟨pk, 0, none⟩), cv] w fun e w' => AddIs n0 w pk mb v R k e w' := by
  refine (add_core n0 w pk mb v R h k cv hc).mono ?_
  rintro e w' ⟨he, h⟩
  refine ⟨he, ?_⟩
  split
  · rename_i hz
    rw [if_pos hz] at h
    obtain ⟨v', b, h1, h2, _⟩ := h
    exact ⟨v', b, h1, h2⟩
  · rename_i hz
    rw [if_neg hz] at h
    exact h
end Go.Proofs.YtbmfkbgncjldjabGreat.K
