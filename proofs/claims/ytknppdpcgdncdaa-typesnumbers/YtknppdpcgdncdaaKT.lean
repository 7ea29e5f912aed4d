/- Get, Names. -/
import Derived.Test.YtknppdpcgdncdaaKE
import Derived.Test.YtknppdpcgdncdaaKR
namespace Go.Proofs.Ytknppdpcgdncdaa.K
open Go.RowKit Q Q.D

theorem mfind_mem : ∀ {R : List Mem} {s : ByteArray} {m : Mem}, mfind R s = some m → m ∈ R ∧ m.k.nm = s
  | x :: R, s, m, h => by
    unfold mfind at h
    split at h
    · rename_i hb; cases h; exact ⟨by simp, ((MapKept.bytes_beq _ _).1 hb).symm⟩
    · obtain ⟨h1, h2⟩ := mfind_mem h; exact ⟨by simp [h1], h2⟩
theorem Mems.at {w : World} : ∀ {R : List Mem}, Mems w R → ∀ m ∈ R, ∃ ab, MemIn w m ab
  | x :: R, ⟨h1, _, h3⟩, m, hm => by
    rcases List.mem_cons.1 hm with rfl | h
    · exact ⟨_, h1⟩
    · exact h3.at m h

set_option maxRecDepth 8000 in
set_option maxHeartbeats 2000000 in
theorem names_any (w : World) (pk : Nat) (R : List Mem) (mb : Nat) (ao : Option Addr) (c : Nat) (h : KinV w pk R mb ao c) (hR : R.length ≤ 1000) :
    Calls Try.prog 17 #[.pointer (some ⟨pk, 0, none⟩)] w fun e w' => Below w.heap.size w w' ∧ ∃ v', e = .returned v' ∧ w'.ownsRow w.heap.size 9 1 v' R.length (R.reverse.map fun m => .string m.k.nm) := by
  have e0 := h.e0
  obtain ⟨_, _, rows, h3, h4⟩ := h.names
  have hlen : (R.reverse.map fun m => m.k.nm).length = R.length := by simp
  rw [hlen] at h3
  have hrow : ∀ j, j < R.length → rows j = [.string ((R.reverse.map fun m => m.k.nm).getD j ⟨#[]⟩)] := fun j hj => by
    have := (h4 j _ (List.getElem?_eq_getElem (by rw [hlen]; exact hj))).1
    rw [this, List.getD_eq_getElem?_getD, List.getElem?_eq_getElem (by rw [hlen]; exact hj)]; rfl
  have hfl : flatR rows R.length = R.reverse.map fun m => .string m.k.nm := by
    refine List.ext_getElem? (fun y => ?_)
    have hk : ∀ j, j < R.length → (rows j).length = 1 := fun j hj => by rw [hrow j hj]; rfl
    by_cases hy : y < R.length
    · have := flatR_at hk y hy 0 (by omega)
      rw [Nat.mul_one, Nat.add_zero, hrow y hy] at this
      rw [this, List.getD_eq_getElem?_getD]
      simp [hy]
    · rw [List.getElem?_eq_none (by rw [flatR_len hk]; omega), List.getElem?_eq_none (by simp; omega)]
  have hC := D.hidIt (cloneS w ao R.length c rows h3 (fun j hj => by rw [hrow j hj]; rfl) (fun j hj u hu => by rw [hrow j hj] at hu; simp at hu; subst hu; rfl) (by omega))
  rw [hfl] at hC
  go_enter Try.func17, Try.ntmps17
  go_wp2_with (go_at_call 38; refine hC.out.mono ?_; rintro e w' ⟨hb', v', rfl, ho⟩)
  go_ret
  exact ⟨hb', _, rfl, ho⟩

theorem results_rowb {fn : Func} {p t1 : Tmp} {ty : TypeId} (h : fn.results = #[.cell p ty, .tmp t1]) (tmps : Array Value) (w : World) (g : Nat) (t : TypeId) (cs : Array Value) (fr : Nat × Nat) (d : TypeDesc)
    (hp : tmps.getD p undef = .pointer (some ⟨g, 0, none⟩)) (hg : w.heap[g]? = some (.cells cs t fr))
    (hu : Try.prog.underlying ty = some d) (hd : (match d with | .struct _ | .array _ _ => true | _ => false) = true) (hi : (Try.prog.info? ty).map (·.size) = some cs.size) :
    (results fn tmps).run Try.prog w = .ok (.tuple #[.agg cs, tmps.getD t1 undef]) w := by
  have hp' : tmps[p]?.getD undef = .pointer (some ⟨g, 0, none⟩) := by simpa using hp
  have hL := run_loadVar_row (P := Try.prog) w g t ty cs fr d hg hu (by cases d <;> simp_all) hi
  simp [results, h, hp', asAddr, hL, Result.andThen]
theorem results_mid {fn : Func} {p t1 t2 : Tmp} {ty : TypeId} (h : fn.results = #[.tmp t1, .cell p ty, .tmp t2]) (tmps : Array Value) (w : World) (g : Nat) (t : TypeId) (cs : Array Value) (fr : Nat × Nat) (d : TypeDesc)
    (hp : tmps.getD p undef = .pointer (some ⟨g, 0, none⟩)) (hg : w.heap[g]? = some (.cells cs t fr))
    (hu : Try.prog.underlying ty = some d) (hd : (match d with | .struct _ | .array _ _ => true | _ => false) = true) (hi : (Try.prog.info? ty).map (·.size) = some cs.size) :
    (results fn tmps).run Try.prog w = .ok (.tuple #[tmps.getD t1 undef, .agg cs, tmps.getD t2 undef]) w := by
  have hp' : tmps[p]?.getD undef = .pointer (some ⟨g, 0, none⟩) := by simpa using hp
  have hL := run_loadVar_row (P := Try.prog) w g t ty cs fr d hg hu (by cases d <;> simp_all) hi
  simp [results, h, hp', asAddr, hL, Result.andThen]
theorem ClassV.ext {w w' : World} (he : Ext w w') {v : Value} {k : KD} (h : ClassV w v k) : ClassV w' v k := by
  obtain ⟨o1, c1, o2, c2, o3, c3, e, s1, s2, h1, h2, h3⟩ := h
  exact ⟨o1, c1, o2, c2, o3, c3, e, s1, s2, LAt.ext h1 he (fun _ _ h => h), LAt.ext h2 he (fun _ _ h => h), LAt.ext h3 he (fun _ _ h => MethR.ext he h)⟩
/-- What Get answers. -/
def GetIs (w w' : World) (o : Option Mem) (e : Ending) : Prop :=
  match o with
  | none => e = .returned (.tuple #[.agg #[.string ⟨#[]⟩, .string ⟨#[]⟩, .slice none 0 0, .slice none 0 0, .slice none 0 0], .bool false])
  | some m => ∃ v', e = .returned (.tuple #[v', .bool true]) ∧ ClassV (seen (newB w.heap.size) w') v' m.k

set_option maxRecDepth 8000 in
set_option maxHeartbeats 2000000 in
theorem get_any (w : World) (pk : Nat) (R : List Mem) (mb : Nat) (ao : Option Addr) (c : Nat) (h : KinV w pk R mb ao c) (hsm : ∀ m ∈ R, KSm m.k) (s : ByteArray) :
    Calls Try.prog 18 #[.pointer (some ⟨pk, 0, none⟩), .string s] w fun e w' => Below w.heap.size w w' ∧ GetIs w w' (mfind R s) e := by
  have B1 := balloc w (.cells #[.string ⟨#[]⟩, .string ⟨#[]⟩, .slice none 0 0, .slice none 0 0, .slice none 0 0] 34)
  have h1 := h.below B1
  have hl := h1.look s
  have e1 := h1.e1
  have Y1 := Blk.new w #[.string ⟨#[]⟩, .string ⟨#[]⟩, .slice none 0 0, .slice none 0 0, .slice none 0 0] 34
  cases hm : mfind R s with
  | none =>
    rw [hm] at hl
    simp only [ptr] at hl
    go_enter Try.func18, Try.ntmps18
    go_wp2
    go_returns
    exact ⟨B1, rfl⟩
  | some m =>
    rw [hm] at hl
    simp only [ptr] at hl
    obtain ⟨hmR, -⟩ := mfind_mem hm
    obtain ⟨ab, o1, c1, o2, c2, o3, c3, hM⟩ := h1.mems.at m hmR
    have hcp := D.hidIt (copyC m.k _ _ hM.cls (hsm m hmR))
    have y0 := hM.e0
    have y1 := hM.e1
    have y2 := hM.e2
    have y3 := hM.e3
    have y4 := hM.e4
    clear hM
    go_enter Try.func18, Try.ntmps18
    go_wp2_with fail
    generalize w.alloc (.cells #[.string ⟨#[]⟩, .string ⟨#[]⟩, .slice none 0 0, .slice none 0 0, .slice none 0 0] 34) = W1 at *
    refine hcp.out.mono ?_
    rintro e w2 ⟨b2, v2, rfl, hc2⟩
    have hc := hc2
    obtain ⟨p1, q1, p2, q2, p3, q3, rfl, _⟩ := hc2
    have Y2 := Y1.below b2
    go_wp2_with (refine wpList_store_row rfl 34 _ _ rfl w.heap.size #[.string m.k.nm, .string m.k.sup, .slice p1 m.k.pool.length q1, .slice p2 m.k.fs.length q2, .slice p3 m.k.ms.length q3] rfl rfl 34 _ Y2 (by kernel_rfl) rfl (by simp [Value.oneCell']) ?_)
    refine bodyPost_ret (results_rowb rfl _ _ w.heap.size 34 _ (0, 0) _ rfl (setRow_heap _ _ _ _ _ _ Y2) Try.underlying34 rfl (by kernel_rfl)) rfl ?_
    have hs1 := B1.size
    have hY := Y1.lt
    have Eb : Ext (seen (newB W1.heap.size) w2) (seen (newB w.heap.size) (w2.setRow w.heap.size #[.string m.k.nm, .string m.k.sup, .slice p1 m.k.pool.length q1, .slice p2 m.k.fs.length q2, .slice p3 m.k.ms.length q3])) :=
      seen_mono (by simp [World.setRow]) (fun b _ hb => by
        simp only [newB, decide_eq_true_eq] at hb
        exact ⟨by simp [newB]; omega, setRow_other _ _ _ _ (by omega)⟩)
    exact ⟨below_row (next B1 b2) (Nat.le_refl _) _, _, rfl, ClassV.ext Eb hc⟩
end Go.Proofs.Ytknppdpcgdncdaa.K
