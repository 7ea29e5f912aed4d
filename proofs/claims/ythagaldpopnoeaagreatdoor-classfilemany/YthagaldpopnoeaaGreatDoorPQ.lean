/- Read: walked. -/
import Derived.Test.YthagaldpopnoeaaGreatDoorPE
import Derived.Test.YthagaldpopnoeaaGreatDoorYJ
namespace Go.Proofs.YthagaldpopnoeaaGreatDoor
open Go.RowKit

theorem mkC_ok {kind n : Int} {ts : List ByteArray} (h : ∀ s ∈ ts, s.size ≤ 262140) (h0 : -2147483648 ≤ n) (h1 : n ≤ 2147483647) : (mkC kind n ts).Ok := ⟨mkC_fits h, h0, h1⟩
theorem rdC_ok (l : List Int) (a : Nat) (y : Int) (hb : AllBytes l) : (rdC l a y).Ok := by
  have hn : -2147483648 ≤ (rdN l a y).1 ∧ (rdN l a y).1 ≤ 2147483647 := by
    unfold rdN
    split
    · simp only; rw [IntKind.wrap_i32]; omega
    · simp
  unfold rdC
  split
  · exact mkC_ok (rT_small l hb _ _ _) hn.1 hn.2
  · exact mkC_ok (by simp) (by omega) (by omega)

/-- The entries that are read, as long as nothing is refused. -/
def rdL (l : List Int) : Nat → List CD → Nat → Int → List CD × Nat × Int
  | 0, acc, a, y => (acc, a, y)
  | k + 1, acc, a, y => if y = 0 then rdL l k (acc ++ [rdC l a y]) (rdE l a y).1 (rdE l a y).2 else (acc, a, y)
theorem rdL_stop (l : List Int) (k : Nat) (acc : List CD) (a : Nat) (y : Int) (h : k = 0 ∨ y ≠ 0) : rdL l k acc a y = (acc, a, y) := by
  cases k with
  | zero => rfl
  | succ k => rcases h with h | h; cases h; simp [rdL, h]
/-- What Read reads: the entries, the place, the refusal. -/
def rdY (l : List Int) (a : Nat) (y : Int) : Int := if 256 < beVal (tk l a y 2).1 then fl (tk l a y 2).2.2 4 else (tk l a y 2).2.2
def rdP (l : List Int) (a : Nat) (y : Int) : List CD × Nat × Int := rdL l (beVal (tk l a y 2).1).toNat [] (tk l a y 2).2.1 (rdY l a y)
def rdO (l : List Int) (a : Nat) (y : Int) : List CD := if (rdP l a y).2.2 = 0 then (rdP l a y).1 else []

theorem own_only {pr B e s n : Nat} {w w' : World} {v : Value} {xs : List Value} (h : w.ownsRow B e s v n xs) (ho : Only pr w w') (hp : pr < B) : w'.ownsRow B e s v n xs := by
  refine ⟨h.1, ?_⟩
  rcases h.2 with x | ⟨g, cap, cur, rfl, hB, hg, r⟩
  · exact .inl x
  · exact .inr ⟨g, cap, cur, rfl, hB, (ho.block g (Array.getElem?_eq_some_iff.1 hg).1 (by omega)).trans hg, r⟩

set_option maxRecDepth 8000 in
set_option maxHeartbeats 4000000 in
theorem read_any (pr : Nat) (v : Value) (l : List Int) (a : Nat) (y : Int) (w : World) (h : IsR pr w v l a y) :
    Calls Tryz.prog 67 #[.pointer (some ⟨pr, 0, none⟩)] w fun e w' => ∃ v', e = .returned v' ∧ w'.ownsRow w.heap.size 85 5 v' (rdO l a y).length (ccells (rdO l a y)) ∧ IsR pr w' v l (rdP l a y).2.1 (rdP l a y).2.2 ∧ Only pr w w' := by
  obtain ⟨i0, hi, hz0, hz1, hz2⟩ := info_parts Tryz.info85
  have hby : AllBytes l := by obtain ⟨_, _, _, _, _, h, _⟩ := h.view; exact h
  have hlt := h.lt
  have H2 := D.hidIt (rnum2 pr v l a y w h)
  have hbv := beVal_two (tk l a y 2).1 (tk_bytes _ _ _ _ hby) (by have := (tk_len l a y 2).1; omega)
  have HP : Hid (rdP l a y = rdL l (beVal (tk l a y 2).1).toNat [] (tk l a y 2).2.1 (rdY l a y)) := rfl
  have HY : Hid (rdY l a y = if 256 < beVal (tk l a y 2).1 then fl (tk l a y 2).2.2 4 else (tk l a y 2).2.2) := rfl
  have HO : Hid (rdO l a y = if (rdP l a y).2.2 = 0 then (rdP l a y).1 else []) := rfl
  generalize rdO l a y = RO at *
  generalize rdP l a y = RP at *
  generalize rdY l a y = y2 at *
  generalize tk l a y 2 = T at *
  obtain ⟨bs, a1, y1⟩ := T
  simp only at H2 hbv HP HY
  obtain ⟨n, hn⟩ : ∃ n : Nat, beVal bs = (n : Int) := ⟨(beVal bs).toNat, by omega⟩
  rw [hn] at H2 HP HY hbv
  rw [Int.toNat_natCast] at HP
  clear hn
  have hn6 : n ≤ 65535 := by omega
  go_enter Tryz.func67, Tryz.ntmps67
  go_wp2_with fail
  refine H2.out.mono ?_
  rintro e w2 ⟨rfl, r2, o2⟩
  have z2 := o2.size
  go_upto_if 10 with fail
  go_cut [] from 9 to 12 (fun wx => IsR pr wx v l a1 y2 ∧ Only pr w wx)
  case first =>
    by_cases h256 : 256 < n
    · have h256' : (256 : Int) < (n : Int) := by omega
      have HYY : Hid (y2 = fl y1 4) := by show _ = _; rw [HY.out, if_pos h256']
      go_wp2_with fail
      refine (fail_any pr v l a1 y1 4 w2 r2).mono ?_
      rintro e w3 ⟨rfl, r3, o3⟩
      go_wp2
      go_meet
      rw [HYY.out]
      exact ⟨r3, o2.trans o3⟩
    · have h256' : ¬ (256 : Int) < (n : Int) := by omega
      have HYY : Hid (y2 = y1) := by show _ = _; rw [HY.out, if_neg h256']
      go_wp2
      go_meet
      rw [HYY.out]
      exact ⟨r2, o2⟩
  case rest =>
    obtain ⟨r3, o3⟩ := hcut
    clear HY H2 r2 o2
    go_wp2
    go_loopw [4] (fun lv wr => ∃ (k : Nat) (acc : List CD) (a' : Nat) (y' : Int), k ≤ n ∧ Hid (acc.length = k) ∧ wr.ownsRow w.heap.size 85 5 lv acc.length (ccells acc) ∧ IsR pr wr v l a' y' ∧ Only pr w wr ∧ Hid (RP = rdL l (n - k) acc a' y') ∧ (∀ c ∈ acc, c.Ok)) (fun lv _ => n - lenOf lv)
    case atStart => exact ⟨0, [], a1, y2, by omega, rfl, World.ownsRow_nil _ _ _ _, r3, o3, HP.out, by simp⟩
    case round =>
      clear r3 o3 HP
      obtain ⟨k, acc, a4, y4, hk, hal, ho4, r4, o4, HP, hok⟩ := hrel
      have HRf := fun w (h : IsR pr w v l a4 y4) => D.hidIt (refused_any pr v l a4 y4 w h)
      have hal' := hal.out
      obtain ⟨lao, lcap, rfl⟩ := cown_slice ho4
      have z4 := o4.size
      by_cases hend : k < n ∧ y4 = 0
      · obtain ⟨hkn, rfl⟩ := hend
        have hkn' : (acc.length : Int) < (n : Int) := by omega
        have HP' : Hid (RP = rdL l (n - (k + 1)) (acc ++ [rdC l a4 0]) (rdE l a4 0).1 (rdE l a4 0).2) := by
          show _ = _
          rw [HP.out, show n - k = (n - (k + 1)) + 1 by omega]
          simp [rdL]
        have HEn := fun w (h : IsR pr w v l a4 0) => D.hidIt (rentry_any pr v l a4 0 w h)
        have hcok := rdC_ok l a4 0 hby
        have hcz : Hid (ccells acc ++ [.int .i64 (rdC l a4 0).kind, .int .i32 (rdC l a4 0).n, .string (rdC l a4 0).cls, .string (rdC l a4 0).nm, .string (rdC l a4 0).dsc] = ccells (acc ++ [rdC l a4 0])) := by show _ = _; rw [ccells_append]; rfl
        generalize rdC l a4 0 = c at *
        generalize rdE l a4 0 = RE at *
        obtain ⟨a5, y5⟩ := RE
        simp only at HEn HP'
        unfold CD.val at HEn
        simp only [ne_eq, not_true, decide_false] at HRf
        clear HP hal'
        go_wp2_with fail
        refine (HRf _ r4).out.mono ?_
        rintro e w5 ⟨rfl, q5, rfl⟩
        go_wp2_with fail
        refine (HEn _ (r4.drewN q5)).out.mono ?_
        rintro e w6 ⟨rfl, r6, o6'⟩
        have o6 : Only pr wr w6 := ⟨o6'.os, o6'.tape, o6'.output, o6'.size, o6'.block⟩
        have own6 := own_only ho4 o6 (by omega)
        have z6 := o6.size
        go_wp2_with (at_builtin; refine wpList_append_own_at _ rfl _ _ 29 rfl w.heap.size 85 i0 _ 5 64 Tryz.underlying29 hi hz0 hz1 hz2 rfl (by decide) _ _ _ rfl (own6.alloc _) _ 1 1 [.int .i64 c.kind, .int .i32 c.n, .string c.cls, .string c.nm, .string c.dsc] rfl rfl ?q1 ?q2 ?q3 ?q4 ?q5 ?q6)
        case q1 =>
          intro j u hj
          match j, hj with
          | 0, hj => simp at hj; subst hj; simp [Addr.add]
          | 1, hj => simp at hj; subst hj; simp [Addr.add]
          | 2, hj => simp at hj; subst hj; simp [Addr.add]
          | 3, hj => simp at hj; subst hj; simp [Addr.add]
          | 4, hj => simp at hj; subst hj; simp [Addr.add]
          | (j + 5), hj => simp at hj
        case q2 => intro u hu; simp at hu; rcases hu with rfl | rfl | rfl | rfl | rfl <;> rfl
        case q3 => have := hal.out; unfold maxLen; omega
        case q4 => have := hal.out; omega
        case q5 => simp; omega
        intro v7 w7 o7 g7 _ _
        have O7 : w7.ownsRow w.heap.size 85 5 v7 (acc ++ [c]).length (ccells (acc ++ [c])) := by rw [List.length_append, ← hcz.out]; exact o7
        have hrow : ∀ k, k < w.heap.size → some k ≠ (Value.slice lao acc.length lcap).ownBlock := fun k hk e => by have := (own6.lt k e.symm).1; omega
        have z7 := g7.size
        rw [show (w6.alloc (.cells #[.int .i64 c.kind, .int .i32 c.n, .string c.cls, .string c.nm, .string c.dsc] 85)).heap.size = w6.heap.size + 1 by simp] at z7
        have hk7 : ∀ k, k < w.heap.size → w7.heap[k]? = w6.heap[k]? := fun k hk => (g7.block k (by simp; omega) (hrow k hk)).trans (heap_alloc_old w6 _ (by omega))
        have o46 := o4.trans o6
        have ho7 : Only pr w w7 := ⟨g7.os.trans o46.os, g7.tape.trans o46.tape, g7.output.trans o46.output, by omega, fun k hk hp => (hk7 k hk).trans (o46.block k hk hp)⟩
        have r7 : IsR pr w7 v l a5 y5 := h.move ho7 ((hk7 pr hlt).trans r6.blk) r6.le
        obtain ⟨lao7, lcap7, rfl⟩ := cown_slice O7
        go_wp2
        refine ⟨⟨k + 1, acc ++ [c], a5, y5, by omega, by (show _ = _; simp; exact hal.out), O7, r7, ho7, HP'.out, ?_⟩, ?_⟩
        · intro x hx
          rcases List.mem_append.1 hx with hx | hx
          · exact hok x hx
          · simp at hx; subst hx; exact hcok
        · have := hal.out
          simp [lenOf]; omega
      · have HPP : Hid (RP = (acc, a4, y4)) := by
          show _ = _
          rw [HP.out]
          exact rdL_stop _ _ _ _ _ (by omega)
        have hr4 := fun q => r4.drewN q
        have fin : ∀ q, IsR pr (wr.drewN q) v l RP.2.1 RP.2.2 ∧ Only pr w (wr.drewN q) := fun q => by
          rw [HPP.out]
          exact ⟨r4.drewN q, ⟨o4.os, o4.tape, o4.output, o4.size, o4.block⟩⟩
        have HF := D.hidIt fin
        clear fin HP
        by_cases hy : y4 = 0
        · have hkn' : ¬ (acc.length : Int) < (n : Int) := by omega
          have HRO : Hid (RO = acc) := by show _ = _; rw [HO.out, HPP.out, if_pos hy]
          subst hy
          simp only [ne_eq, not_true, decide_false] at HRf
          go_wp2_with fail
          refine (HRf _ r4).out.mono ?_
          rintro e w5 ⟨rfl, q5, rfl⟩
          go_wp2
          go_ret
          rw [HRO.out]
          refine ⟨_, rfl, ?_, HF.out _⟩
          have ho5 := ho4
          rw [show (Value.slice lao acc.length lcap) = .slice lao k lcap by rw [hal']] at ho5
          exact ho5
        · have HRO : Hid (RO = []) := by show _ = _; rw [HO.out, HPP.out, if_neg hy]
          rw [decide_eq_true hy] at HRf
          by_cases hkn : k < n
          · have hkn' : (acc.length : Int) < (n : Int) := by omega
            go_wp2_with fail
            refine (HRf _ r4).out.mono ?_
            rintro e w5 ⟨rfl, q5, rfl⟩
            go_wp2_with fail
            refine (HRf _ (r4.drewN q5)).out.mono ?_
            rintro e w6 ⟨rfl, q6, rfl⟩
            go_wp2
            go_ret
            rw [HRO.out]
            exact ⟨_, rfl, World.ownsRow_nil _ _ _ _, HF.out _⟩
          · have hkn' : ¬ (acc.length : Int) < (n : Int) := by omega
            go_wp2_with fail
            refine (HRf _ r4).out.mono ?_
            rintro e w5 ⟨rfl, q5, rfl⟩
            go_wp2
            go_ret
            rw [HRO.out]
            exact ⟨_, rfl, World.ownsRow_nil _ _ _ _, HF.out _⟩
end Go.Proofs.YthagaldpopnoeaaGreatDoor
