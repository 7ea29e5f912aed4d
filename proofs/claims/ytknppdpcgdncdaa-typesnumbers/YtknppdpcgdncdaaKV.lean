/- refuse, Add. -/
import Derived.Test.YtknppdpcgdncdaaKS
import Derived.Test.YtknppdpcgdncdaaKT
namespace Go.Proofs.Ytknppdpcgdncdaa.K
open Go.RowKit Go.ChangeMaps Q Q.D

def refZ (R : List Mem) (k : KD) : Int :=
  if rightZ k = 0 then
    (if (mfind R k.nm).isSome then 23 else if 32 ≤ R.length then 4 else if (mfind R k.sup).isNone then 22 else if k.ms.any MD.nat then 12 else if k.ms.any (contraB (lin R k.sup)) then 23 else 0)
  else rightZ k
theorem anyContra (p : Option Mem) (xs : List Mem) (ao : Option Addr) (c : Nat) (l : List MD) (w : World) (h : LAt 9 MethR w ao c l) (hch : Chain w p xs) :
    Calls Try.prog 47 #[.slice ao l.length c, .func (.func 49) #[ptr p] #[]] w fun e w' => e = .returned (.bool (l.any (contraB xs))) ∧ Below w.heap.size w w' := by
  have hbig := h.big
  obtain ⟨h1, h2, rows, h3, h4⟩ := h
  have := hasB Try.hasM 9 Try.isAgg41 Try.sizeOf41 rows l.length (fun j hj => by obtain ⟨_, _, _, _, _, _, e, _⟩ := h4 j l[j] (List.getElem?_eq_getElem hj); rw [e]; rfl) (fun j => contraB xs (l.getD j ⟨⟨#[]⟩, ⟨#[]⟩, false, false, 0, 0, [], [], []⟩)) 49 (ptr p) (enters_of Try.func49 (by kernel_rfl) rfl) ao c w (fun W j hj hW => by
    have e : l.getD j ⟨⟨#[]⟩, ⟨#[]⟩, false, false, 0, 0, [], [], []⟩ = l[j] := by simp [List.getD_eq_getElem?_getD, List.getElem?_eq_getElem hj]
    obtain ⟨_, _, _, _, _, _, er, _⟩ := h4 j l[j] (List.getElem?_eq_getElem hj)
    rw [e, er]
    refine (contra_any l[j] _ _ _ _ _ _ _ _ _ W p xs (hch.ext (ext_below hW))).mono ?_
    rintro e w' ⟨rfl, hb⟩
    exact ⟨rfl, next hW hb⟩) hbig h3
  rw [anyN_list l _ (contraB xs) (fun i x hx => by rw [List.getD_eq_getElem?_getD, hx]; rfl)] at this
  exact this

set_option maxRecDepth 8000 in
set_option maxHeartbeats 4000000 in
theorem refuse_any (w : World) (pk : Nat) (R : List Mem) (mb : Nat) (ao : Option Addr) (c : Nat) (h : KinV w pk R mb ao c) (k : KD) (cv : Value) (hc : ClassV w cv k) :
    Calls Try.prog 30 #[.pointer (some ⟨pk, 0, none⟩), cv] w fun e w' => e = .returned (.int .i64 (refZ R k)) ∧ Below w.heap.size w w' := by
  have hc' := hc
  obtain ⟨o1, c1, o2, c2, o3, c3, rfl, z1, z2, k1, k2, k3⟩ := hc
  have B1 := balloc w (.cells #[.string k.nm, .string k.sup, .slice o1 k.pool.length c1, .slice o2 k.fs.length c2, .slice o3 k.ms.length c3] 34)
  have C1 := Blk.new w #[.string k.nm, .string k.sup, .slice o1 k.pool.length c1, .slice o2 k.fs.length c2, .slice o3 k.ms.length c3] 34
  have hRt := D.hidIt (right_class k _ _ (hc'.below B1))
  obtain ⟨rf, hrf⟩ : ∃ rf, refZ R k = rf := ⟨_, rfl⟩
  rw [hrf]
  have HF := D.hidIt hrf
  clear hrf
  go_enter Try.func30, Try.ntmps30
  go_wp2_with fail
  generalize w.alloc (.cells #[.string k.nm, .string k.sup, .slice o1 k.pool.length c1, .slice o2 k.fs.length c2, .slice o3 k.ms.length c3] 34) = W1 at *
  refine hRt.out.mono ?_
  rintro e w2 ⟨rfl, b2⟩
  have B2 := next B1 b2
  have h2 := h.below B2
  have C2 := C1.below b2
  by_cases hz : rightZ k = 0
  · have HZ := D.hidIt hz
    rw [hz]
    clear hz
    have x1 := h2.e1
    have x0 := h2.e0
    have y0 := C2.cell 0
    have y1 := C2.cell 1
    have y4 := C2.cell 4
    simp at y0 y1 y4
    have l1 : (Instr.lookup 54 (.map (some mb)) (.string k.sup) false).run Try.prog w2.drew = .ok (ptr (mfind R k.sup)) w2.drew := (h2.below (Below.refl _ w2).drew).look k.sup
    have hch := (h2.below (Below.refl _ w2).drew).mems.chain k.sup
    obtain ⟨ps, hps⟩ : ∃ ps, mfind R k.sup = ps := ⟨_, rfl⟩
    rw [hps] at l1 hch
    have HP := D.hidIt hps
    clear hps
    obtain ⟨q, hq⟩ : ∃ q, ptr ps = .pointer q := by cases ps <;> exact ⟨_, rfl⟩
    rw [hq] at l1
    have HQ := D.hidIt hq
    clear hq
    go_wp2_with fail
    go_region
    have h3 := h2.below (Below.refl _ w2).drew
    have C3 : Blk w2.drew w.heap.size #[.string k.nm, .string k.sup, .slice o1 k.pool.length c1, .slice o2 k.fs.length c2, .slice o3 k.ms.length c3] 34 := C2
    have B3 : Below w.heap.size w w2.drew := B2.drew
    go_wp2_with fail
    clear l1 x0 x1 y0 y1 y4
    generalize w2.drew = w3 at *
    have l2 : (Instr.lookup 54 (.map (some mb)) (.string k.nm) false).run Try.prog w3.drew = .ok (ptr (mfind R k.nm)) w3.drew := (h3.below (Below.refl _ w3).drew).look k.nm
    have x1 := h3.e1
    have x0 := h3.e0
    have y0 := C3.cell 0
    have y4 := C3.cell 4
    simp at y0 y4
    cases hn : mfind R k.nm with
    | some m =>
      rw [hn] at l2
      simp only [ptr] at l2
      go_region
      go_wp2
      go_ret
      exact ⟨by rw [← HF.out]; simp [refZ, HZ.out, hn], B3.drew⟩
    | none =>
      rw [hn] at l2
      simp only [ptr] at l2
      go_region
      have h4 := h3.below (Below.refl _ w3).drew
      have C4 : Blk w3.drew w.heap.size #[.string k.nm, .string k.sup, .slice o1 k.pool.length c1, .slice o2 k.fs.length c2, .slice o3 k.ms.length c3] 34 := C3
      have B4 : Below w.heap.size w w3.drew := B3.drew
      have hch4 := hch.ext (ext_below (Below.refl _ w3).drew)
      clear l2
      by_cases hlen : 32 ≤ R.length
      · have hlen' : (32 : Int) ≤ (R.length : Int) := by omega
        go_wp2
        go_ret
        exact ⟨by rw [← HF.out]; simp [refZ, HZ.out, hn, hlen], B4⟩
      have hlen' : ¬ (32 : Int) ≤ (R.length : Int) := by omega
      cases q with
      | none =>
        have hp0 : mfind R k.sup = none := by
          rw [HP.out]
          cases ps with
          | none => rfl
          | some m => have := HQ.out; simp [ptr] at this
        go_wp2
        go_ret
        exact ⟨by rw [← HF.out]; simp [refZ, HZ.out, hn, hlen, hp0], B4⟩
      | some a =>
        have hp1 : (mfind R k.sup).isNone = false := by
          rw [HP.out]
          cases ps with
          | none => have := HQ.out; simp [ptr] at this
          | some m => rfl
        have hA := D.hidIt (anyNative o3 c3 k.ms _ (k3.below B4 (fun _ _ h => h.below B4)))
        go_wp2_with fail
        generalize w3.drew = w4 at *
        refine hA.out.mono ?_
        rintro e w5 ⟨rfl, b5⟩
        cases ha : k.ms.any MD.nat
        · have y4' := (C4.below b5).cell 4
          simp at y4'
          have hB := D.hidIt (anyContra ps (lin R k.sup) o3 c3 k.ms w5 (k3.below (next B4 b5) (fun _ _ h => h.below (next B4 b5))) (hch4.ext (ext_below b5)))
          rw [HQ.out] at hB
          go_wp2_with fail
          refine hB.out.mono ?_
          rintro e w6 ⟨rfl, b6⟩
          cases hb : k.ms.any (contraB (lin R k.sup))
          · go_wp2
            go_ret
            exact ⟨by rw [← HF.out]; simp [refZ, HZ.out, hn, hlen, hp1, ha, hb], next B4 (next b5 b6)⟩
          · go_wp2
            go_ret
            exact ⟨by rw [← HF.out]; simp [refZ, HZ.out, hn, hlen, hp1, ha, hb], next B4 (next b5 b6)⟩
        · go_wp2
          go_ret
          exact ⟨by rw [← HF.out]; simp [refZ, HZ.out, hn, hlen, hp1, ha], next B4 b5⟩
  · have hrf : rightZ k = rf := by rw [← HF.out]; simp [refZ, hz]
    clear HF
    generalize rightZ k = rz at *
    have hz' : (rz != 0) = true := by simpa using hz
    have HF := D.hidIt hrf
    clear hrf
    go_wp2
    go_ret
    exact ⟨by rw [HF.out]; rfl, B2⟩
end Go.Proofs.Ytknppdpcgdncdaa.K
