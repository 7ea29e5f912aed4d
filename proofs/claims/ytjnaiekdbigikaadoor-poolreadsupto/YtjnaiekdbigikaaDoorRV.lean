/- The document's own reading of a pool: walked. -/
import Derived.Test.YtjnaiekdbigikaaDoorRS
import Derived.Deep.CutRange
namespace Go.Proofs.YtjnaiekdbigikaaDoor
open Go.RowKit

/-- The refusal behind an entry. -/
def tlE (c : CD) (y : Int) : Int := if y = 0 then (if rightB c = true then 0 else 14) else y
theorem tlE_eq (c : CD) (y : Int) : (if rightB c = true then y else fl y 14) = tlE c y := by
  unfold tlE fl
  by_cases h : y = 0
  · subst h; simp
  · simp [h]
theorem tlE_bad (c : CD) (y : Int) : fl y 12 = tlE c (fl y 12) := by
  unfold tlE
  rw [if_neg]
  unfold fl
  split <;> omega

theorem five_new (w : World) (b0 b1 b2 b3 b4 : Value) : ∀ (j : Nat) (u : Value), [b0, b1, b2, b3, b4][j]? = some u → (w.alloc (.cells #[b0, b1, b2, b3, b4] 30)).cell? ((⟨w.heap.size, 0, none⟩ : Addr).add j) = some u := by
  intro j u hj
  match j, hj with
  | 0, hj => simp at hj; subst hj; simp [Addr.add]
  | 1, hj => simp at hj; subst hj; simp [Addr.add]
  | 2, hj => simp at hj; subst hj; simp [Addr.add]
  | 3, hj => simp at hj; subst hj; simp [Addr.add]
  | 4, hj => simp at hj; subst hj; simp [Addr.add]
  | (j + 5), hj => simp at hj

/-- A round's end: the row has grown, the reader stands. -/
theorem step_end {pr B n : Nat} {w wr w9 w10 : World} {v u : Value} {l : List Int} {a4 a : Nat} {y4 y : Int} {ys : List Value} {o : Obj} (o4 : Only pr w wr) (s0 : IsS pr w v l a4 y4) (O9 : Only pr wr w9) (S9 : IsS pr w9 v l a y) (own9 : w9.ownsRow B 30 5 u n ys) (g : World.grownBy (w9.alloc o) w10 u.ownBlock) (hB : w.heap.size ≤ B ∧ pr < w.heap.size) :
    IsS pr w10 v l a y ∧ Only pr w w10 := by
  have hz := o4.size
  have hz9 := O9.size
  have hzg := g.size
  have za : (w9.alloc o).heap.size = w9.heap.size + 1 := by simp
  have hl9 : pr < w9.heap.size := S9.lt
  have hun : ∀ k, u.ownBlock = some k → B ≤ k := fun k hk => (own9.lt k hk).1
  have hb : ∀ k, k < B → k < w9.heap.size → w10.heap[k]? = w9.heap[k]? := fun k hk hk9 =>
    (g.block k (by omega) (fun e => by have := hun k e.symm; omega)).trans (heap_alloc_old w9 _ hk9)
  have on : Only pr w w10 := ⟨g.os.trans ((O9.os).trans o4.os), g.tape.trans ((O9.tape).trans o4.tape), g.output.trans ((O9.output).trans o4.output), by omega, fun k hk hne => (hb k (by omega) (by omega)).trans ((O9.block k (by omega) hne).trans (o4.block k hk hne))⟩
  refine ⟨?_, on⟩
  have hp : w10.heap[pr]? = w9.heap[pr]? := hb pr (by omega) hl9
  have mv : ∀ {t' : Nat} {f' : Bool} {y' z' : Int}, IsB pr w9 v l t' f' y' z' → IsB pr w10 v l t' f' y' z' := by
    intro t' f' y' z' hB'
    rcases s0 with ⟨_, h0⟩ | ⟨_, _, h0⟩
    · exact h0.move on (hp.trans hB'.blk) hB'.le
    · exact h0.move on (hp.trans hB'.blk) hB'.le
  rcases S9 with ⟨e, h⟩ | ⟨e, t, h⟩
  · exact .inl ⟨e, mv h⟩
  · exact .inr ⟨e, t, mv h⟩

set_option maxRecDepth 8000 in
set_option maxHeartbeats 8000000 in
theorem rread_any (pr : Nat) (v : Value) (l : List Int) (a : Nat) (y : Int) (w : World) (h : IsS pr w v l a y) (hlen : l.length ≤ 140737488351232) :
    Calls Tryd.prog 27 #[.pointer (some ⟨pr, 0, none⟩)] w fun e w' => ∃ v', e = .returned v' ∧ w'.ownsRow w.heap.size 30 5 v' (rdO l a y).length (ccells (rdO l a y)) ∧ IsS pr w' v l (rdP l a y).2.1 (rdP l a y).2.2 ∧ Only pr w w' := by
  obtain ⟨i0, hi, hz0, hz1, hz2⟩ := info_parts Tryd.info30
  have hby : AllBytes l := by obtain ⟨_, _, _, _, _, h, _⟩ := h.view; exact h
  have hlt := h.lt
  have H2 := D.hidIt (snum2 pr v l a y w h hlen)
  have hbv := beVal_two (tk l a y 2).1 (tk_bytes _ _ _ _ hby) (by have := (tk_len l a y 2).1; omega)
  have HP : Hid (rdP l a y = rdL l (beVal (tk l a y 2).1).toNat [] (tk l a y 2).2.1 (rdY l a y)) := rfl
  have HY : Hid (rdY l a y = if 256 < beVal (tk l a y 2).1 then fl (tk l a y 2).2.2 4 else (tk l a y 2).2.2) := rfl
  have HO : Hid (rdO l a y = if (rdP l a y).2.2 = 0 then (rdP l a y).1 else []) := rfl
  generalize rdO l a y = RO at *
  generalize rdP l a y = RP at *
  generalize rdY l a y = y2 at *
  generalize tk l a y 2 = T at *
  obtain ⟨bs, a1, y1⟩ := T
  simp only at H2 hbv HP HY
  obtain ⟨n, hn⟩ : ∃ n : Nat, beVal bs = (n : Int) := ⟨(beVal bs).toNat, by omega⟩
  rw [hn] at H2 HP HY hbv
  rw [Int.toNat_natCast] at HP
  clear hn
  have hn6 : n ≤ 65535 := by omega
  go_enter Tryd.func27, Tryd.ntmps27
  go_wp2_with fail
  refine H2.out.mono ?_
  rintro e w2 ⟨rfl, r2, o2⟩
  have z2 := o2.size
  go_upto_if 10 with fail
  go_cut [] from 10 to 13 (fun wx => IsS pr wx v l a1 y2 ∧ Only pr w wx)
  case first =>
    by_cases h256 : 256 < n
    · have h256' : (256 : Int) < (n : Int) := by omega
      have HYY : Hid (y2 = fl y1 4) := by show _ = _; rw [HY.out, if_pos h256']
      go_wp2_with fail
      refine (reffail_any pr v l a1 y1 4 w2 r2 (by omega)).mono ?_
      rintro e w3 ⟨rfl, r3, o3⟩
      go_wp2
      go_meet
      rw [HYY.out]
      exact ⟨r3, o2.trans o3⟩
    · have h256' : ¬ (256 : Int) < (n : Int) := by omega
      have HYY : Hid (y2 = y1) := by show _ = _; rw [HY.out, if_neg h256']
      go_wp2
      go_meet
      rw [HYY.out]
      exact ⟨r2, o2⟩
  case rest =>
    obtain ⟨r3, o3⟩ := hcut
    clear HY H2 r2 o2
    go_wp2
    go_loopw [3, 5] (fun lv i wr => ∃ (k : Nat) (acc : List CD) (a' : Nat) (y' : Int), i = .int .i64 (k : Int) ∧ k ≤ n ∧ Hid (acc.length = k) ∧ wr.ownsRow w.heap.size 30 5 lv acc.length (ccells acc) ∧ IsS pr wr v l a' y' ∧ Only pr w wr ∧ Hid (RP = rdL l (n - k) acc a' y') ∧ (∀ c ∈ acc, c.Ok)) (fun _ i _ => n - (intOf i).toNat)
    case atStart => exact ⟨0, [], a1, y2, rfl, by omega, rfl, World.ownsRow_nil _ _ _ _, r3, o3, HP.out, by simp⟩
    case round =>
      clear r3 o3 HP
      obtain ⟨k, acc, a4, y4, rfl, hk, hal, ho4, s4, o4, HP, hok⟩ := hrel
      obtain ⟨lao, lcap, rfl⟩ := cown_slice ho4
      have z4 := o4.size
      have hfl4 := s4.flag
      by_cases hend : k < n ∧ y4 = 0
      · obtain ⟨hkn, rfl⟩ := hend
        have hkn' : (k : Int) < (n : Int) := by omega
        simp only [ne_eq, not_true, decide_false] at hfl4
        have HP' : Hid (RP = rdL l (n - (k + 1)) (acc ++ [rdC l a4 0]) (rdE l a4 0).1 (rdE l a4 0).2) := by
          show _ = _
          rw [HP.out, show n - k = (n - (k + 1)) + 1 by omega]
          simp [rdL]
        have hcok := rdC_ok l a4 0 hby
        have hcs := rdC_small l a4 0 hby
        have H1 := D.hidIt (snum1 pr v l a4 0 wr s4 hlen)
        have HB := D.hidIt (rd_bad (l := l) (a := a4) (y := 0))
        have HG := D.hidIt (rd_good (l := l) (a := a4) (y := 0))
        have HN0 : Hid (textsN (beVal (tk l a4 0 1).1) = 0 → rdN l a4 0 = (IntKind.i32.wrap (beVal (tk l (tk l a4 0 1).2.1 (tk l a4 0 1).2.2 4).1), (tk l (tk l a4 0 1).2.1 (tk l a4 0 1).2.2 4).2.1, (tk l (tk l a4 0 1).2.1 (tk l a4 0 1).2.2 4).2.2)) := fun h => by unfold rdN; rw [if_pos h]
        have HN1 : Hid (textsN (beVal (tk l a4 0 1).1) ≠ 0 → rdN l a4 0 = (0, (tk l a4 0 1).2.1, (tk l a4 0 1).2.2)) := fun h => by unfold rdN; rw [if_neg h]
        generalize rdC l a4 0 = RC at *
        generalize rdE l a4 0 = RE at *
        generalize rdN l a4 0 = RN at *
        generalize tk l a4 0 1 = T1 at *
        obtain ⟨bs1, a5, y5⟩ := T1
        simp only at H1 HB HG HN0 HN1
        generalize beVal bs1 = K at *
        clear HP
        go_wp2_with fail
        refine H1.out.mono ?_
        rintro e w5 ⟨rfl, s5, o5⟩
        have z5 := o5.size
        have b6 : Below w5.heap.size w5 (w5.alloc (.cells #[.int .i64 K, .int .i32 0, .string ⟨#[]⟩, .string ⟨#[]⟩, .string ⟨#[]⟩] 30)) := (Below.refl _ _).alloc (Nat.le_refl _) _
        have s6 := s5.below b6
        have p6 := heap_alloc_new w5 (.cells #[.int .i64 K, .int .i32 0, .string ⟨#[]⟩, .string ⟨#[]⟩, .string ⟨#[]⟩] 30)
        have o6 : Only pr wr (w5.alloc (.cells #[.int .i64 K, .int .i32 0, .string ⟨#[]⟩, .string ⟨#[]⟩, .string ⟨#[]⟩] 30)) := o5.fresh _
        have z6 : (w5.alloc (.cells #[.int .i64 K, .int .i32 0, .string ⟨#[]⟩, .string ⟨#[]⟩, .string ⟨#[]⟩] 30)).heap.size = w5.heap.size + 1 := by simp
        by_cases k3 : K = 3
        · subst k3
          have HNN := D.hidIt (HN0.out (by decide))
          have H4 := D.hidIt (snum4 pr v l a5 y5 _ s6 hlen)
          generalize tk l a5 y5 4 = T4 at *
          obtain ⟨bs4, a8, y8⟩ := T4
          simp only at H4 HNN
          have HGG := HG.out _ _ _ (by decide) HNN.out
          go_wp2_with fail
          refine H4.out.mono ?_
          rintro e w7 ⟨rfl, s7, o7⟩
          have p7 := (o7.block w5.heap.size (by omega) (by omega)).trans p6
          have o07 := o6.trans o7
          obtain ⟨d0, d1, d2, d3, d4, df⟩ := blk5 p7
          have S8 := s4.put (pc := w5.heap.size) (o := 1) (u := .int .i32 (wrap32 (beVal bs4))) o07 s7 (by omega)
          have O8 := o07.put (pc := w5.heap.size) (o := 1) (u := .int .i32 (wrap32 (beVal bs4))) (by omega)
          have P8 : (w7.setCell ⟨w5.heap.size, 1, none⟩ (.int .i32 (wrap32 (beVal bs4)))).heap[w5.heap.size]? = some (.cells #[.int .i64 3, .int .i32 (wrap32 (beVal bs4)), .string ⟨#[]⟩, .string ⟨#[]⟩, .string ⟨#[]⟩] 30 (0, 0)) := by rw [gset_row p7]; rfl
          have z7 := o7.size
          have HE : Hid (RC = (⟨3, wrap32 (beVal bs4), ⟨#[]⟩, ⟨#[]⟩, ⟨#[]⟩⟩ : CD) ∧ RE = (a8, tlE (⟨3, wrap32 (beVal bs4), ⟨#[]⟩, ⟨#[]⟩, ⟨#[]⟩⟩ : CD) y8)) := by
            rw [wrap32_eq]
            refine ⟨HGG.1, ?_⟩
            rw [HGG.2]
            show (_, _) = (_, _)
            rw [tlE_eq]
            rfl
          clear HB HG HN0 HN1 H1
          have hcs' := hcs
          rw [HE.out.1] at hcs'
          have hokc : ∀ x ∈ acc ++ [(⟨3, wrap32 (beVal bs4), ⟨#[]⟩, ⟨#[]⟩, ⟨#[]⟩⟩ : CD)], x.Ok := by
            intro x hx
            rcases List.mem_append.1 hx with hx | hx
            · exact hok x hx
            · simp at hx; subst hx; rw [← HE.out.1]; exact hcok
          have HRR := fun w => D.hidIt (rright_any (⟨3, wrap32 (beVal bs4), ⟨#[]⟩, ⟨#[]⟩, ⟨#[]⟩⟩ : CD) w hcs')
          unfold CD.val at HRR
          have z8 := O8.size
          have hpl : w5.heap.size < (w7.setCell ⟨w5.heap.size, 1, none⟩ (.int .i32 (wrap32 (beVal bs4)))).heap.size := (Array.getElem?_eq_some_iff.1 P8).1
          have hfl8 := S8.flag
          obtain ⟨d0, d1, d2, d3, d4, df⟩ := blk5 P8
          by_cases hy : y8 = 0
          · subst hy
            simp only [ne_eq, not_true, decide_false] at hfl8
            cases hr : rightB (⟨3, wrap32 (beVal bs4), ⟨#[]⟩, ⟨#[]⟩, ⟨#[]⟩⟩ : CD) with
            | true =>
              rw [hr] at HRR
              have HE2 : Hid (RC = (⟨3, wrap32 (beVal bs4), ⟨#[]⟩, ⟨#[]⟩, ⟨#[]⟩⟩ : CD) ∧ RE = (a8, 0)) := ⟨HE.out.1, by rw [HE.out.2]; unfold tlE; rw [if_pos rfl, if_pos hr]⟩
              clear hr HE
              go_wp2_with fail
              refine (HRR _).out.mono ?_
              rintro e w9 ⟨rfl, b9⟩
              have S9 := S8.below b9
              have O9 := O8.trans (Only.of_below b9)
              have P9 := (b9.block w5.heap.size hpl).trans P8
              clear d0 d1 d2 d3 d4 df
              have own9 := own_only ho4 O9 (by omega)
              have zz9 := (O9).size
              obtain ⟨f0, f1, f2, f3, f4, ff⟩ := blk5 P9
              go_wp2_with (at_builtin; refine wpList_append_own_at _ rfl _ _ 26 rfl w.heap.size 30 i0 _ 5 64 Tryd.underlying26 hi hz0 hz1 hz2 rfl (by decide) _ _ _ rfl (own9.alloc _) _ 1 1 [.int .i64 3, .int .i32 (wrap32 (beVal bs4)), .string ⟨#[]⟩, .string ⟨#[]⟩, .string ⟨#[]⟩] rfl rfl ?q1x1 ?q1x2 ?q1x3 ?q1x4 ?q1x5 ?q1x6)
              case q1x1 => exact five_new _ _ _ _ _ _
              case q1x2 => intro u hu; simp at hu; rcases hu with rfl | rfl | rfl | rfl | rfl <;> rfl
              case q1x3 => have := hal.out; unfold maxLen; omega
              case q1x4 => have := hal.out; omega
              case q1x5 => simp; omega
              intro v10 w10 o10 g10 _ _
              have O10 : w10.ownsRow w.heap.size 30 5 v10 (acc ++ [(⟨3, wrap32 (beVal bs4), ⟨#[]⟩, ⟨#[]⟩, ⟨#[]⟩⟩ : CD)]).length (ccells (acc ++ [(⟨3, wrap32 (beVal bs4), ⟨#[]⟩, ⟨#[]⟩, ⟨#[]⟩⟩ : CD)])) := by
                rw [List.length_append, show ccells (acc ++ [(⟨3, wrap32 (beVal bs4), ⟨#[]⟩, ⟨#[]⟩, ⟨#[]⟩⟩ : CD)]) = ccells acc ++ [.int .i64 3, .int .i32 (wrap32 (beVal bs4)), .string ⟨#[]⟩, .string ⟨#[]⟩, .string ⟨#[]⟩] by rw [ccells_append]; rfl]
                exact o10
              have FIN := step_end o4 h (O9) S9 own9 g10 (by omega)
              go_wp2
              refine ⟨⟨k + 1, acc ++ [(⟨3, wrap32 (beVal bs4), ⟨#[]⟩, ⟨#[]⟩, ⟨#[]⟩⟩ : CD)], _, _, by go_num, by omega, by (show _ = _; simp; exact hal.out), O10, FIN.1, FIN.2, ?_, hokc⟩, by simp [intOf]; omega⟩
              show _ = _
              rw [HP'.out, HE2.out.1, HE2.out.2]
            | false =>
              rw [hr] at HRR
              have HE2 : Hid (RC = (⟨3, wrap32 (beVal bs4), ⟨#[]⟩, ⟨#[]⟩, ⟨#[]⟩⟩ : CD) ∧ RE = (a8, 14)) := ⟨HE.out.1, by rw [HE.out.2]; unfold tlE; rw [if_pos rfl, if_neg (by rw [hr]; simp)]⟩
              clear hr HE
              go_wp2_with fail
              refine (HRR _).out.mono ?_
              rintro e w8b ⟨rfl, b9⟩
              have S9 := S8.below b9
              have z9 := b9.size
              go_wp2_with fail
              refine (reffail_any pr v l a8 0 14 w8b S9 (by omega)).mono ?_
              rintro e w9 ⟨rfl, S9', on9⟩
              rw [if_pos rfl] at S9'
              have O9 := (O8.trans (Only.of_below b9)).trans on9
              have P9 := (on9.block w5.heap.size (by omega) (by omega)).trans ((b9.block w5.heap.size hpl).trans P8)
              clear d0 d1 d2 d3 d4 df
              have own9 := own_only ho4 O9 (by omega)
              have zz9 := (O9).size
              obtain ⟨f0, f1, f2, f3, f4, ff⟩ := blk5 P9
              go_wp2_with (at_builtin; refine wpList_append_own_at _ rfl _ _ 26 rfl w.heap.size 30 i0 _ 5 64 Tryd.underlying26 hi hz0 hz1 hz2 rfl (by decide) _ _ _ rfl (own9.alloc _) _ 1 1 [.int .i64 3, .int .i32 (wrap32 (beVal bs4)), .string ⟨#[]⟩, .string ⟨#[]⟩, .string ⟨#[]⟩] rfl rfl ?q2x1 ?q2x2 ?q2x3 ?q2x4 ?q2x5 ?q2x6)
              case q2x1 => exact five_new _ _ _ _ _ _
              case q2x2 => intro u hu; simp at hu; rcases hu with rfl | rfl | rfl | rfl | rfl <;> rfl
              case q2x3 => have := hal.out; unfold maxLen; omega
              case q2x4 => have := hal.out; omega
              case q2x5 => simp; omega
              intro v10 w10 o10 g10 _ _
              have O10 : w10.ownsRow w.heap.size 30 5 v10 (acc ++ [(⟨3, wrap32 (beVal bs4), ⟨#[]⟩, ⟨#[]⟩, ⟨#[]⟩⟩ : CD)]).length (ccells (acc ++ [(⟨3, wrap32 (beVal bs4), ⟨#[]⟩, ⟨#[]⟩, ⟨#[]⟩⟩ : CD)])) := by
                rw [List.length_append, show ccells (acc ++ [(⟨3, wrap32 (beVal bs4), ⟨#[]⟩, ⟨#[]⟩, ⟨#[]⟩⟩ : CD)]) = ccells acc ++ [.int .i64 3, .int .i32 (wrap32 (beVal bs4)), .string ⟨#[]⟩, .string ⟨#[]⟩, .string ⟨#[]⟩] by rw [ccells_append]; rfl]
                exact o10
              have FIN := step_end o4 h (O9) S9' own9 g10 (by omega)
              go_wp2
              refine ⟨⟨k + 1, acc ++ [(⟨3, wrap32 (beVal bs4), ⟨#[]⟩, ⟨#[]⟩, ⟨#[]⟩⟩ : CD)], _, _, by go_num, by omega, by (show _ = _; simp; exact hal.out), O10, FIN.1, FIN.2, ?_, hokc⟩, by simp [intOf]; omega⟩
              show _ = _
              rw [HP'.out, HE2.out.1, HE2.out.2]
          · rw [decide_eq_true hy] at hfl8
            have HE2 : Hid (RC = (⟨3, wrap32 (beVal bs4), ⟨#[]⟩, ⟨#[]⟩, ⟨#[]⟩⟩ : CD) ∧ RE = (a8, y8)) := ⟨HE.out.1, by rw [HE.out.2]; unfold tlE; rw [if_neg hy]⟩
            clear HE
            clear d0 d1 d2 d3 d4 df
            have own9 := own_only ho4 O8 (by omega)
            have zz9 := (O8).size
            obtain ⟨f0, f1, f2, f3, f4, ff⟩ := blk5 P8
            go_wp2_with (at_builtin; refine wpList_append_own_at _ rfl _ _ 26 rfl w.heap.size 30 i0 _ 5 64 Tryd.underlying26 hi hz0 hz1 hz2 rfl (by decide) _ _ _ rfl (own9.alloc _) _ 1 1 [.int .i64 3, .int .i32 (wrap32 (beVal bs4)), .string ⟨#[]⟩, .string ⟨#[]⟩, .string ⟨#[]⟩] rfl rfl ?q3x1 ?q3x2 ?q3x3 ?q3x4 ?q3x5 ?q3x6)
            case q3x1 => rw [show w7.heap.size = ((w7.setCell ⟨w5.heap.size, 1, none⟩ (.int .i32 (wrap32 (beVal bs4))))).heap.size by simp [World.setCell]]; exact five_new _ _ _ _ _ _
            case q3x2 => intro u hu; simp at hu; rcases hu with rfl | rfl | rfl | rfl | rfl <;> rfl
            case q3x3 => have := hal.out; unfold maxLen; omega
            case q3x4 => have := hal.out; omega
            case q3x5 => simp; omega
            intro v10 w10 o10 g10 _ _
            have O10 : w10.ownsRow w.heap.size 30 5 v10 (acc ++ [(⟨3, wrap32 (beVal bs4), ⟨#[]⟩, ⟨#[]⟩, ⟨#[]⟩⟩ : CD)]).length (ccells (acc ++ [(⟨3, wrap32 (beVal bs4), ⟨#[]⟩, ⟨#[]⟩, ⟨#[]⟩⟩ : CD)])) := by
              rw [List.length_append, show ccells (acc ++ [(⟨3, wrap32 (beVal bs4), ⟨#[]⟩, ⟨#[]⟩, ⟨#[]⟩⟩ : CD)]) = ccells acc ++ [.int .i64 3, .int .i32 (wrap32 (beVal bs4)), .string ⟨#[]⟩, .string ⟨#[]⟩, .string ⟨#[]⟩] by rw [ccells_append]; rfl]
              exact o10
            have FIN := step_end o4 h (O8) S8 own9 g10 (by omega)
            go_wp2
            refine ⟨⟨k + 1, acc ++ [(⟨3, wrap32 (beVal bs4), ⟨#[]⟩, ⟨#[]⟩, ⟨#[]⟩⟩ : CD)], _, _, by go_num, by omega, by (show _ = _; simp; exact hal.out), O10, FIN.1, FIN.2, ?_, hokc⟩, by simp [intOf]; omega⟩
            show _ = _
            rw [HP'.out, HE2.out.1, HE2.out.2]
        · by_cases k7 : K = 7
          · subst k7
            have HNN := D.hidIt (HN1.out (by decide))
            have HGG := HG.out _ _ _ (by decide) HNN.out
            rw [show rT l (textsN 7) a5 y5 = ([(rtext l a5 y5).1], (rtext l a5 y5).2.1, (rtext l a5 y5).2.2) from rfl] at HGG
            have H4 := D.hidIt (refrtext_any pr v l a5 y5 _ s6 hlen)
            generalize rtext l a5 y5 = X4 at *
            obtain ⟨t1, a8, y8⟩ := X4
            simp only at H4 HGG
            go_wp2_with fail
            refine H4.out.mono ?_
            rintro e w7 ⟨rfl, s7, o7⟩
            have z7 := o7.size
            have p7 := (o7.block w5.heap.size (by omega) (by omega)).trans p6
            have o07 := o6.trans o7
            obtain ⟨d0, d1, d2, d3, d4, df⟩ := blk5 p7
            have S8 := s4.put (pc := w5.heap.size) (o := 2) (u := .string t1) o07 s7 (by omega)
            have O8 := o07.put (pc := w5.heap.size) (o := 2) (u := .string t1) (by omega)
            have P8 : (w7.setCell ⟨w5.heap.size, 2, none⟩ (.string t1)).heap[w5.heap.size]? = some (.cells #[.int .i64 7, .int .i32 0, .string t1, .string ⟨#[]⟩, .string ⟨#[]⟩] 30 (0, 0)) := by rw [gset_row p7]; rfl
            have HE : Hid (RC = (⟨7, 0, t1, ⟨#[]⟩, ⟨#[]⟩⟩ : CD) ∧ RE = (a8, tlE (⟨7, 0, t1, ⟨#[]⟩, ⟨#[]⟩⟩ : CD) y8)) := by
              refine ⟨HGG.1, ?_⟩
              rw [HGG.2]
              show (_, _) = (_, _)
              rw [tlE_eq]
              rfl
            clear HB HG HN0 HN1 H1
            have hcs' := hcs
            rw [HE.out.1] at hcs'
            have hokc : ∀ x ∈ acc ++ [(⟨7, 0, t1, ⟨#[]⟩, ⟨#[]⟩⟩ : CD)], x.Ok := by
              intro x hx
              rcases List.mem_append.1 hx with hx | hx
              · exact hok x hx
              · simp at hx; subst hx; rw [← HE.out.1]; exact hcok
            have HRR := fun w => D.hidIt (rright_any (⟨7, 0, t1, ⟨#[]⟩, ⟨#[]⟩⟩ : CD) w hcs')
            unfold CD.val at HRR
            have z8 := O8.size
            have hpl : w5.heap.size < (w7.setCell ⟨w5.heap.size, 2, none⟩ (.string t1)).heap.size := (Array.getElem?_eq_some_iff.1 P8).1
            have hfl8 := S8.flag
            obtain ⟨d0, d1, d2, d3, d4, df⟩ := blk5 P8
            by_cases hy : y8 = 0
            · subst hy
              simp only [ne_eq, not_true, decide_false] at hfl8
              cases hr : rightB (⟨7, 0, t1, ⟨#[]⟩, ⟨#[]⟩⟩ : CD) with
              | true =>
                rw [hr] at HRR
                have HE2 : Hid (RC = (⟨7, 0, t1, ⟨#[]⟩, ⟨#[]⟩⟩ : CD) ∧ RE = (a8, 0)) := ⟨HE.out.1, by rw [HE.out.2]; unfold tlE; rw [if_pos rfl, if_pos hr]⟩
                clear hr HE
                go_wp2_with fail
                refine (HRR _).out.mono ?_
                rintro e w9 ⟨rfl, b9⟩
                have S9 := S8.below b9
                have O9 := O8.trans (Only.of_below b9)
                have P9 := (b9.block w5.heap.size hpl).trans P8
                clear d0 d1 d2 d3 d4 df
                have own9 := own_only ho4 O9 (by omega)
                have zz9 := (O9).size
                obtain ⟨f0, f1, f2, f3, f4, ff⟩ := blk5 P9
                go_wp2_with (at_builtin; refine wpList_append_own_at _ rfl _ _ 26 rfl w.heap.size 30 i0 _ 5 64 Tryd.underlying26 hi hz0 hz1 hz2 rfl (by decide) _ _ _ rfl (own9.alloc _) _ 1 1 [.int .i64 7, .int .i32 (0), .string t1, .string ⟨#[]⟩, .string ⟨#[]⟩] rfl rfl ?q7x1 ?q7x2 ?q7x3 ?q7x4 ?q7x5 ?q7x6)
                case q7x1 => exact five_new _ _ _ _ _ _
                case q7x2 => intro u hu; simp at hu; rcases hu with rfl | rfl | rfl | rfl | rfl <;> rfl
                case q7x3 => have := hal.out; unfold maxLen; omega
                case q7x4 => have := hal.out; omega
                case q7x5 => simp; omega
                intro v10 w10 o10 g10 _ _
                have O10 : w10.ownsRow w.heap.size 30 5 v10 (acc ++ [(⟨7, 0, t1, ⟨#[]⟩, ⟨#[]⟩⟩ : CD)]).length (ccells (acc ++ [(⟨7, 0, t1, ⟨#[]⟩, ⟨#[]⟩⟩ : CD)])) := by
                  rw [List.length_append, show ccells (acc ++ [(⟨7, 0, t1, ⟨#[]⟩, ⟨#[]⟩⟩ : CD)]) = ccells acc ++ [.int .i64 7, .int .i32 (0), .string t1, .string ⟨#[]⟩, .string ⟨#[]⟩] by rw [ccells_append]; rfl]
                  exact o10
                have FIN := step_end o4 h (O9) S9 own9 g10 (by omega)
                go_wp2
                refine ⟨⟨k + 1, acc ++ [(⟨7, 0, t1, ⟨#[]⟩, ⟨#[]⟩⟩ : CD)], _, _, by go_num, by omega, by (show _ = _; simp; exact hal.out), O10, FIN.1, FIN.2, ?_, hokc⟩, by simp [intOf]; omega⟩
                show _ = _
                rw [HP'.out, HE2.out.1, HE2.out.2]
              | false =>
                rw [hr] at HRR
                have HE2 : Hid (RC = (⟨7, 0, t1, ⟨#[]⟩, ⟨#[]⟩⟩ : CD) ∧ RE = (a8, 14)) := ⟨HE.out.1, by rw [HE.out.2]; unfold tlE; rw [if_pos rfl, if_neg (by rw [hr]; simp)]⟩
                clear hr HE
                go_wp2_with fail
                refine (HRR _).out.mono ?_
                rintro e w8b ⟨rfl, b9⟩
                have S9 := S8.below b9
                have z9 := b9.size
                go_wp2_with fail
                refine (reffail_any pr v l a8 0 14 w8b S9 (by omega)).mono ?_
                rintro e w9 ⟨rfl, S9', on9⟩
                rw [if_pos rfl] at S9'
                have O9 := (O8.trans (Only.of_below b9)).trans on9
                have P9 := (on9.block w5.heap.size (by omega) (by omega)).trans ((b9.block w5.heap.size hpl).trans P8)
                clear d0 d1 d2 d3 d4 df
                have own9 := own_only ho4 O9 (by omega)
                have zz9 := (O9).size
                obtain ⟨f0, f1, f2, f3, f4, ff⟩ := blk5 P9
                go_wp2_with (at_builtin; refine wpList_append_own_at _ rfl _ _ 26 rfl w.heap.size 30 i0 _ 5 64 Tryd.underlying26 hi hz0 hz1 hz2 rfl (by decide) _ _ _ rfl (own9.alloc _) _ 1 1 [.int .i64 7, .int .i32 (0), .string t1, .string ⟨#[]⟩, .string ⟨#[]⟩] rfl rfl ?q8x1 ?q8x2 ?q8x3 ?q8x4 ?q8x5 ?q8x6)
                case q8x1 => exact five_new _ _ _ _ _ _
                case q8x2 => intro u hu; simp at hu; rcases hu with rfl | rfl | rfl | rfl | rfl <;> rfl
                case q8x3 => have := hal.out; unfold maxLen; omega
                case q8x4 => have := hal.out; omega
                case q8x5 => simp; omega
                intro v10 w10 o10 g10 _ _
                have O10 : w10.ownsRow w.heap.size 30 5 v10 (acc ++ [(⟨7, 0, t1, ⟨#[]⟩, ⟨#[]⟩⟩ : CD)]).length (ccells (acc ++ [(⟨7, 0, t1, ⟨#[]⟩, ⟨#[]⟩⟩ : CD)])) := by
                  rw [List.length_append, show ccells (acc ++ [(⟨7, 0, t1, ⟨#[]⟩, ⟨#[]⟩⟩ : CD)]) = ccells acc ++ [.int .i64 7, .int .i32 (0), .string t1, .string ⟨#[]⟩, .string ⟨#[]⟩] by rw [ccells_append]; rfl]
                  exact o10
                have FIN := step_end o4 h (O9) S9' own9 g10 (by omega)
                go_wp2
                refine ⟨⟨k + 1, acc ++ [(⟨7, 0, t1, ⟨#[]⟩, ⟨#[]⟩⟩ : CD)], _, _, by go_num, by omega, by (show _ = _; simp; exact hal.out), O10, FIN.1, FIN.2, ?_, hokc⟩, by simp [intOf]; omega⟩
                show _ = _
                rw [HP'.out, HE2.out.1, HE2.out.2]
            · rw [decide_eq_true hy] at hfl8
              have HE2 : Hid (RC = (⟨7, 0, t1, ⟨#[]⟩, ⟨#[]⟩⟩ : CD) ∧ RE = (a8, y8)) := ⟨HE.out.1, by rw [HE.out.2]; unfold tlE; rw [if_neg hy]⟩
              clear HE
              clear d0 d1 d2 d3 d4 df
              have own9 := own_only ho4 O8 (by omega)
              have zz9 := (O8).size
              obtain ⟨f0, f1, f2, f3, f4, ff⟩ := blk5 P8
              go_wp2_with (at_builtin; refine wpList_append_own_at _ rfl _ _ 26 rfl w.heap.size 30 i0 _ 5 64 Tryd.underlying26 hi hz0 hz1 hz2 rfl (by decide) _ _ _ rfl (own9.alloc _) _ 1 1 [.int .i64 7, .int .i32 (0), .string t1, .string ⟨#[]⟩, .string ⟨#[]⟩] rfl rfl ?q9x1 ?q9x2 ?q9x3 ?q9x4 ?q9x5 ?q9x6)
              case q9x1 => rw [show w7.heap.size = ((w7.setCell ⟨w5.heap.size, 2, none⟩ (.string t1))).heap.size by simp [World.setCell]]; exact five_new _ _ _ _ _ _
              case q9x2 => intro u hu; simp at hu; rcases hu with rfl | rfl | rfl | rfl | rfl <;> rfl
              case q9x3 => have := hal.out; unfold maxLen; omega
              case q9x4 => have := hal.out; omega
              case q9x5 => simp; omega
              intro v10 w10 o10 g10 _ _
              have O10 : w10.ownsRow w.heap.size 30 5 v10 (acc ++ [(⟨7, 0, t1, ⟨#[]⟩, ⟨#[]⟩⟩ : CD)]).length (ccells (acc ++ [(⟨7, 0, t1, ⟨#[]⟩, ⟨#[]⟩⟩ : CD)])) := by
                rw [List.length_append, show ccells (acc ++ [(⟨7, 0, t1, ⟨#[]⟩, ⟨#[]⟩⟩ : CD)]) = ccells acc ++ [.int .i64 7, .int .i32 (0), .string t1, .string ⟨#[]⟩, .string ⟨#[]⟩] by rw [ccells_append]; rfl]
                exact o10
              have FIN := step_end o4 h (O8) S8 own9 g10 (by omega)
              go_wp2
              refine ⟨⟨k + 1, acc ++ [(⟨7, 0, t1, ⟨#[]⟩, ⟨#[]⟩⟩ : CD)], _, _, by go_num, by omega, by (show _ = _; simp; exact hal.out), O10, FIN.1, FIN.2, ?_, hokc⟩, by simp [intOf]; omega⟩
              show _ = _
              rw [HP'.out, HE2.out.1, HE2.out.2]
          · by_cases k9 : K = 9
            · subst k9
              have HNN := D.hidIt (HN1.out (by decide))
              have HGG := HG.out _ _ _ (by decide) HNN.out
              rw [show rT l (textsN 9) a5 y5 = ([(rtext l a5 y5).1, (rtext l (rtext l a5 y5).2.1 (rtext l a5 y5).2.2).1, (rtext l (rtext l (rtext l a5 y5).2.1 (rtext l a5 y5).2.2).2.1 (rtext l (rtext l a5 y5).2.1 (rtext l a5 y5).2.2).2.2).1], (rtext l (rtext l (rtext l a5 y5).2.1 (rtext l a5 y5).2.2).2.1 (rtext l (rtext l a5 y5).2.1 (rtext l a5 y5).2.2).2.2).2.1, (rtext l (rtext l (rtext l a5 y5).2.1 (rtext l a5 y5).2.2).2.1 (rtext l (rtext l a5 y5).2.1 (rtext l a5 y5).2.2).2.2).2.2) from rfl] at HGG
              have HT1 := D.hidIt (refrtext_any pr v l a5 y5 _ s6 hlen)
              generalize rtext l a5 y5 = X1 at *
              obtain ⟨t1, a51, y51⟩ := X1
              simp only at HT1 HGG
              have zp1 : w5.heap.size < _ := (Array.getElem?_eq_some_iff.1 p6).1
              go_wp2_with fail
              refine HT1.out.mono ?_
              rintro e w61 ⟨rfl, s71, o71⟩
              have z71 := o71.size
              have p71 := (o71.block w5.heap.size zp1 (by omega)).trans p6
              have o071 := o6.trans o71
              have zo1 := o071.size
              obtain ⟨d0, d1, d2, d3, d4, df⟩ := blk5 p71
              have S61 := s4.put (pc := w5.heap.size) (o := 2) (u := .string t1) o071 s71 (by omega)
              have O61 := o071.put (pc := w5.heap.size) (o := 2) (u := .string t1) (by omega)
              have P61 : (w61.setCell ⟨w5.heap.size, 2, none⟩ (.string t1)).heap[w5.heap.size]? = some (.cells #[.int .i64 9, .int .i32 0, .string t1, .string ⟨#[]⟩, .string ⟨#[]⟩] 30 (0, 0)) := by rw [gset_row p71]; rfl
              have HT2 := D.hidIt (refrtext_any pr v l a51 y51 _ S61 hlen)
              generalize rtext l a51 y51 = X2 at *
              obtain ⟨t2, a52, y52⟩ := X2
              simp only at HT2 HGG
              have zp2 : w5.heap.size < _ := (Array.getElem?_eq_some_iff.1 P61).1
              go_wp2_with fail
              refine HT2.out.mono ?_
              rintro e w62 ⟨rfl, s72, o72⟩
              have z72 := o72.size
              have p72 := (o72.block w5.heap.size zp2 (by omega)).trans P61
              have o072 := O61.trans o72
              have zo2 := o072.size
              obtain ⟨d0, d1, d2, d3, d4, df⟩ := blk5 p72
              have S62 := s4.put (pc := w5.heap.size) (o := 3) (u := .string t2) o072 s72 (by omega)
              have O62 := o072.put (pc := w5.heap.size) (o := 3) (u := .string t2) (by omega)
              have P62 : (w62.setCell ⟨w5.heap.size, 3, none⟩ (.string t2)).heap[w5.heap.size]? = some (.cells #[.int .i64 9, .int .i32 0, .string t1, .string t2, .string ⟨#[]⟩] 30 (0, 0)) := by rw [gset_row p72]; rfl
              have HT3 := D.hidIt (refrtext_any pr v l a52 y52 _ S62 hlen)
              generalize rtext l a52 y52 = X3 at *
              obtain ⟨t3, a8, y8⟩ := X3
              simp only at HT3 HGG
              have zp3 : w5.heap.size < _ := (Array.getElem?_eq_some_iff.1 P62).1
              go_wp2_with fail
              refine HT3.out.mono ?_
              rintro e w7 ⟨rfl, s73, o73⟩
              have z73 := o73.size
              have p73 := (o73.block w5.heap.size zp3 (by omega)).trans P62
              have o073 := O62.trans o73
              have zo3 := o073.size
              obtain ⟨d0, d1, d2, d3, d4, df⟩ := blk5 p73
              have S8 := s4.put (pc := w5.heap.size) (o := 4) (u := .string t3) o073 s73 (by omega)
              have O8 := o073.put (pc := w5.heap.size) (o := 4) (u := .string t3) (by omega)
              have P8 : (w7.setCell ⟨w5.heap.size, 4, none⟩ (.string t3)).heap[w5.heap.size]? = some (.cells #[.int .i64 9, .int .i32 0, .string t1, .string t2, .string t3] 30 (0, 0)) := by rw [gset_row p73]; rfl
              have HE : Hid (RC = (⟨9, 0, t1, t2, t3⟩ : CD) ∧ RE = (a8, tlE (⟨9, 0, t1, t2, t3⟩ : CD) y8)) := by
                refine ⟨HGG.1, ?_⟩
                rw [HGG.2]
                show (_, _) = (_, _)
                rw [tlE_eq]
                rfl
              clear HB HG HN0 HN1 H1
              have hcs' := hcs
              rw [HE.out.1] at hcs'
              have hokc : ∀ x ∈ acc ++ [(⟨9, 0, t1, t2, t3⟩ : CD)], x.Ok := by
                intro x hx
                rcases List.mem_append.1 hx with hx | hx
                · exact hok x hx
                · simp at hx; subst hx; rw [← HE.out.1]; exact hcok
              have HRR := fun w => D.hidIt (rright_any (⟨9, 0, t1, t2, t3⟩ : CD) w hcs')
              unfold CD.val at HRR
              have z8 := O8.size
              have hpl : w5.heap.size < (w7.setCell ⟨w5.heap.size, 4, none⟩ (.string t3)).heap.size := (Array.getElem?_eq_some_iff.1 P8).1
              have hfl8 := S8.flag
              obtain ⟨d0, d1, d2, d3, d4, df⟩ := blk5 P8
              by_cases hy : y8 = 0
              · subst hy
                simp only [ne_eq, not_true, decide_false] at hfl8
                cases hr : rightB (⟨9, 0, t1, t2, t3⟩ : CD) with
                | true =>
                  rw [hr] at HRR
                  have HE2 : Hid (RC = (⟨9, 0, t1, t2, t3⟩ : CD) ∧ RE = (a8, 0)) := ⟨HE.out.1, by rw [HE.out.2]; unfold tlE; rw [if_pos rfl, if_pos hr]⟩
                  clear hr HE
                  go_wp2_with fail
                  refine (HRR _).out.mono ?_
                  rintro e w9 ⟨rfl, b9⟩
                  have S9 := S8.below b9
                  have O9 := O8.trans (Only.of_below b9)
                  have P9 := (b9.block w5.heap.size hpl).trans P8
                  clear d0 d1 d2 d3 d4 df
                  have own9 := own_only ho4 O9 (by omega)
                  have zz9 := (O9).size
                  obtain ⟨f0, f1, f2, f3, f4, ff⟩ := blk5 P9
                  go_wp2_with (at_builtin; refine wpList_append_own_at _ rfl _ _ 26 rfl w.heap.size 30 i0 _ 5 64 Tryd.underlying26 hi hz0 hz1 hz2 rfl (by decide) _ _ _ rfl (own9.alloc _) _ 1 1 [.int .i64 9, .int .i32 (0), .string t1, .string t2, .string t3] rfl rfl ?q10x1 ?q10x2 ?q10x3 ?q10x4 ?q10x5 ?q10x6)
                  case q10x1 => exact five_new _ _ _ _ _ _
                  case q10x2 => intro u hu; simp at hu; rcases hu with rfl | rfl | rfl | rfl | rfl <;> rfl
                  case q10x3 => have := hal.out; unfold maxLen; omega
                  case q10x4 => have := hal.out; omega
                  case q10x5 => simp; omega
                  intro v10 w10 o10 g10 _ _
                  have O10 : w10.ownsRow w.heap.size 30 5 v10 (acc ++ [(⟨9, 0, t1, t2, t3⟩ : CD)]).length (ccells (acc ++ [(⟨9, 0, t1, t2, t3⟩ : CD)])) := by
                    rw [List.length_append, show ccells (acc ++ [(⟨9, 0, t1, t2, t3⟩ : CD)]) = ccells acc ++ [.int .i64 9, .int .i32 (0), .string t1, .string t2, .string t3] by rw [ccells_append]; rfl]
                    exact o10
                  have FIN := step_end o4 h (O9) S9 own9 g10 (by omega)
                  go_wp2
                  refine ⟨⟨k + 1, acc ++ [(⟨9, 0, t1, t2, t3⟩ : CD)], _, _, by go_num, by omega, by (show _ = _; simp; exact hal.out), O10, FIN.1, FIN.2, ?_, hokc⟩, by simp [intOf]; omega⟩
                  show _ = _
                  rw [HP'.out, HE2.out.1, HE2.out.2]
                | false =>
                  rw [hr] at HRR
                  have HE2 : Hid (RC = (⟨9, 0, t1, t2, t3⟩ : CD) ∧ RE = (a8, 14)) := ⟨HE.out.1, by rw [HE.out.2]; unfold tlE; rw [if_pos rfl, if_neg (by rw [hr]; simp)]⟩
                  clear hr HE
                  go_wp2_with fail
                  refine (HRR _).out.mono ?_
                  rintro e w8b ⟨rfl, b9⟩
                  have S9 := S8.below b9
                  have z9 := b9.size
                  go_wp2_with fail
                  refine (reffail_any pr v l a8 0 14 w8b S9 (by omega)).mono ?_
                  rintro e w9 ⟨rfl, S9', on9⟩
                  rw [if_pos rfl] at S9'
                  have O9 := (O8.trans (Only.of_below b9)).trans on9
                  have P9 := (on9.block w5.heap.size (by omega) (by omega)).trans ((b9.block w5.heap.size hpl).trans P8)
                  clear d0 d1 d2 d3 d4 df
                  have own9 := own_only ho4 O9 (by omega)
                  have zz9 := (O9).size
                  obtain ⟨f0, f1, f2, f3, f4, ff⟩ := blk5 P9
                  go_wp2_with (at_builtin; refine wpList_append_own_at _ rfl _ _ 26 rfl w.heap.size 30 i0 _ 5 64 Tryd.underlying26 hi hz0 hz1 hz2 rfl (by decide) _ _ _ rfl (own9.alloc _) _ 1 1 [.int .i64 9, .int .i32 (0), .string t1, .string t2, .string t3] rfl rfl ?q11x1 ?q11x2 ?q11x3 ?q11x4 ?q11x5 ?q11x6)
                  case q11x1 => exact five_new _ _ _ _ _ _
                  case q11x2 => intro u hu; simp at hu; rcases hu with rfl | rfl | rfl | rfl | rfl <;> rfl
                  case q11x3 => have := hal.out; unfold maxLen; omega
                  case q11x4 => have := hal.out; omega
                  case q11x5 => simp; omega
                  intro v10 w10 o10 g10 _ _
                  have O10 : w10.ownsRow w.heap.size 30 5 v10 (acc ++ [(⟨9, 0, t1, t2, t3⟩ : CD)]).length (ccells (acc ++ [(⟨9, 0, t1, t2, t3⟩ : CD)])) := by
                    rw [List.length_append, show ccells (acc ++ [(⟨9, 0, t1, t2, t3⟩ : CD)]) = ccells acc ++ [.int .i64 9, .int .i32 (0), .string t1, .string t2, .string t3] by rw [ccells_append]; rfl]
                    exact o10
                  have FIN := step_end o4 h (O9) S9' own9 g10 (by omega)
                  go_wp2
                  refine ⟨⟨k + 1, acc ++ [(⟨9, 0, t1, t2, t3⟩ : CD)], _, _, by go_num, by omega, by (show _ = _; simp; exact hal.out), O10, FIN.1, FIN.2, ?_, hokc⟩, by simp [intOf]; omega⟩
                  show _ = _
                  rw [HP'.out, HE2.out.1, HE2.out.2]
              · rw [decide_eq_true hy] at hfl8
                have HE2 : Hid (RC = (⟨9, 0, t1, t2, t3⟩ : CD) ∧ RE = (a8, y8)) := ⟨HE.out.1, by rw [HE.out.2]; unfold tlE; rw [if_neg hy]⟩
                clear HE
                clear d0 d1 d2 d3 d4 df
                have own9 := own_only ho4 O8 (by omega)
                have zz9 := (O8).size
                obtain ⟨f0, f1, f2, f3, f4, ff⟩ := blk5 P8
                go_wp2_with (at_builtin; refine wpList_append_own_at _ rfl _ _ 26 rfl w.heap.size 30 i0 _ 5 64 Tryd.underlying26 hi hz0 hz1 hz2 rfl (by decide) _ _ _ rfl (own9.alloc _) _ 1 1 [.int .i64 9, .int .i32 (0), .string t1, .string t2, .string t3] rfl rfl ?q12x1 ?q12x2 ?q12x3 ?q12x4 ?q12x5 ?q12x6)
                case q12x1 => rw [show w7.heap.size = ((w7.setCell ⟨w5.heap.size, 4, none⟩ (.string t3))).heap.size by simp [World.setCell]]; exact five_new _ _ _ _ _ _
                case q12x2 => intro u hu; simp at hu; rcases hu with rfl | rfl | rfl | rfl | rfl <;> rfl
                case q12x3 => have := hal.out; unfold maxLen; omega
                case q12x4 => have := hal.out; omega
                case q12x5 => simp; omega
                intro v10 w10 o10 g10 _ _
                have O10 : w10.ownsRow w.heap.size 30 5 v10 (acc ++ [(⟨9, 0, t1, t2, t3⟩ : CD)]).length (ccells (acc ++ [(⟨9, 0, t1, t2, t3⟩ : CD)])) := by
                  rw [List.length_append, show ccells (acc ++ [(⟨9, 0, t1, t2, t3⟩ : CD)]) = ccells acc ++ [.int .i64 9, .int .i32 (0), .string t1, .string t2, .string t3] by rw [ccells_append]; rfl]
                  exact o10
                have FIN := step_end o4 h (O8) S8 own9 g10 (by omega)
                go_wp2
                refine ⟨⟨k + 1, acc ++ [(⟨9, 0, t1, t2, t3⟩ : CD)], _, _, by go_num, by omega, by (show _ = _; simp; exact hal.out), O10, FIN.1, FIN.2, ?_, hokc⟩, by simp [intOf]; omega⟩
                show _ = _
                rw [HP'.out, HE2.out.1, HE2.out.2]
            · by_cases k10 : K = 10
              · subst k10
                have HNN := D.hidIt (HN1.out (by decide))
                have HGG := HG.out _ _ _ (by decide) HNN.out
                rw [show rT l (textsN 10) a5 y5 = ([(rtext l a5 y5).1, (rtext l (rtext l a5 y5).2.1 (rtext l a5 y5).2.2).1, (rtext l (rtext l (rtext l a5 y5).2.1 (rtext l a5 y5).2.2).2.1 (rtext l (rtext l a5 y5).2.1 (rtext l a5 y5).2.2).2.2).1], (rtext l (rtext l (rtext l a5 y5).2.1 (rtext l a5 y5).2.2).2.1 (rtext l (rtext l a5 y5).2.1 (rtext l a5 y5).2.2).2.2).2.1, (rtext l (rtext l (rtext l a5 y5).2.1 (rtext l a5 y5).2.2).2.1 (rtext l (rtext l a5 y5).2.1 (rtext l a5 y5).2.2).2.2).2.2) from rfl] at HGG
                have HT1 := D.hidIt (refrtext_any pr v l a5 y5 _ s6 hlen)
                generalize rtext l a5 y5 = X1 at *
                obtain ⟨t1, a51, y51⟩ := X1
                simp only at HT1 HGG
                have zp1 : w5.heap.size < _ := (Array.getElem?_eq_some_iff.1 p6).1
                go_wp2_with fail
                refine HT1.out.mono ?_
                rintro e w61 ⟨rfl, s71, o71⟩
                have z71 := o71.size
                have p71 := (o71.block w5.heap.size zp1 (by omega)).trans p6
                have o071 := o6.trans o71
                have zo1 := o071.size
                obtain ⟨d0, d1, d2, d3, d4, df⟩ := blk5 p71
                have S61 := s4.put (pc := w5.heap.size) (o := 2) (u := .string t1) o071 s71 (by omega)
                have O61 := o071.put (pc := w5.heap.size) (o := 2) (u := .string t1) (by omega)
                have P61 : (w61.setCell ⟨w5.heap.size, 2, none⟩ (.string t1)).heap[w5.heap.size]? = some (.cells #[.int .i64 10, .int .i32 0, .string t1, .string ⟨#[]⟩, .string ⟨#[]⟩] 30 (0, 0)) := by rw [gset_row p71]; rfl
                have HT2 := D.hidIt (refrtext_any pr v l a51 y51 _ S61 hlen)
                generalize rtext l a51 y51 = X2 at *
                obtain ⟨t2, a52, y52⟩ := X2
                simp only at HT2 HGG
                have zp2 : w5.heap.size < _ := (Array.getElem?_eq_some_iff.1 P61).1
                go_wp2_with fail
                refine HT2.out.mono ?_
                rintro e w62 ⟨rfl, s72, o72⟩
                have z72 := o72.size
                have p72 := (o72.block w5.heap.size zp2 (by omega)).trans P61
                have o072 := O61.trans o72
                have zo2 := o072.size
                obtain ⟨d0, d1, d2, d3, d4, df⟩ := blk5 p72
                have S62 := s4.put (pc := w5.heap.size) (o := 3) (u := .string t2) o072 s72 (by omega)
                have O62 := o072.put (pc := w5.heap.size) (o := 3) (u := .string t2) (by omega)
                have P62 : (w62.setCell ⟨w5.heap.size, 3, none⟩ (.string t2)).heap[w5.heap.size]? = some (.cells #[.int .i64 10, .int .i32 0, .string t1, .string t2, .string ⟨#[]⟩] 30 (0, 0)) := by rw [gset_row p72]; rfl
                have HT3 := D.hidIt (refrtext_any pr v l a52 y52 _ S62 hlen)
                generalize rtext l a52 y52 = X3 at *
                obtain ⟨t3, a8, y8⟩ := X3
                simp only at HT3 HGG
                have zp3 : w5.heap.size < _ := (Array.getElem?_eq_some_iff.1 P62).1
                go_wp2_with fail
                refine HT3.out.mono ?_
                rintro e w7 ⟨rfl, s73, o73⟩
                have z73 := o73.size
                have p73 := (o73.block w5.heap.size zp3 (by omega)).trans P62
                have o073 := O62.trans o73
                have zo3 := o073.size
                obtain ⟨d0, d1, d2, d3, d4, df⟩ := blk5 p73
                have S8 := s4.put (pc := w5.heap.size) (o := 4) (u := .string t3) o073 s73 (by omega)
                have O8 := o073.put (pc := w5.heap.size) (o := 4) (u := .string t3) (by omega)
                have P8 : (w7.setCell ⟨w5.heap.size, 4, none⟩ (.string t3)).heap[w5.heap.size]? = some (.cells #[.int .i64 10, .int .i32 0, .string t1, .string t2, .string t3] 30 (0, 0)) := by rw [gset_row p73]; rfl
                have HE : Hid (RC = (⟨10, 0, t1, t2, t3⟩ : CD) ∧ RE = (a8, tlE (⟨10, 0, t1, t2, t3⟩ : CD) y8)) := by
                  refine ⟨HGG.1, ?_⟩
                  rw [HGG.2]
                  show (_, _) = (_, _)
                  rw [tlE_eq]
                  rfl
                clear HB HG HN0 HN1 H1
                have hcs' := hcs
                rw [HE.out.1] at hcs'
                have hokc : ∀ x ∈ acc ++ [(⟨10, 0, t1, t2, t3⟩ : CD)], x.Ok := by
                  intro x hx
                  rcases List.mem_append.1 hx with hx | hx
                  · exact hok x hx
                  · simp at hx; subst hx; rw [← HE.out.1]; exact hcok
                have HRR := fun w => D.hidIt (rright_any (⟨10, 0, t1, t2, t3⟩ : CD) w hcs')
                unfold CD.val at HRR
                have z8 := O8.size
                have hpl : w5.heap.size < (w7.setCell ⟨w5.heap.size, 4, none⟩ (.string t3)).heap.size := (Array.getElem?_eq_some_iff.1 P8).1
                have hfl8 := S8.flag
                obtain ⟨d0, d1, d2, d3, d4, df⟩ := blk5 P8
                by_cases hy : y8 = 0
                · subst hy
                  simp only [ne_eq, not_true, decide_false] at hfl8
                  cases hr : rightB (⟨10, 0, t1, t2, t3⟩ : CD) with
                  | true =>
                    rw [hr] at HRR
                    have HE2 : Hid (RC = (⟨10, 0, t1, t2, t3⟩ : CD) ∧ RE = (a8, 0)) := ⟨HE.out.1, by rw [HE.out.2]; unfold tlE; rw [if_pos rfl, if_pos hr]⟩
                    clear hr HE
                    go_wp2_with fail
                    refine (HRR _).out.mono ?_
                    rintro e w9 ⟨rfl, b9⟩
                    have S9 := S8.below b9
                    have O9 := O8.trans (Only.of_below b9)
                    have P9 := (b9.block w5.heap.size hpl).trans P8
                    clear d0 d1 d2 d3 d4 df
                    have own9 := own_only ho4 O9 (by omega)
                    have zz9 := (O9).size
                    obtain ⟨f0, f1, f2, f3, f4, ff⟩ := blk5 P9
                    go_wp2_with (at_builtin; refine wpList_append_own_at _ rfl _ _ 26 rfl w.heap.size 30 i0 _ 5 64 Tryd.underlying26 hi hz0 hz1 hz2 rfl (by decide) _ _ _ rfl (own9.alloc _) _ 1 1 [.int .i64 10, .int .i32 (0), .string t1, .string t2, .string t3] rfl rfl ?q13x1 ?q13x2 ?q13x3 ?q13x4 ?q13x5 ?q13x6)
                    case q13x1 => exact five_new _ _ _ _ _ _
                    case q13x2 => intro u hu; simp at hu; rcases hu with rfl | rfl | rfl | rfl | rfl <;> rfl
                    case q13x3 => have := hal.out; unfold maxLen; omega
                    case q13x4 => have := hal.out; omega
                    case q13x5 => simp; omega
                    intro v10 w10 o10 g10 _ _
                    have O10 : w10.ownsRow w.heap.size 30 5 v10 (acc ++ [(⟨10, 0, t1, t2, t3⟩ : CD)]).length (ccells (acc ++ [(⟨10, 0, t1, t2, t3⟩ : CD)])) := by
                      rw [List.length_append, show ccells (acc ++ [(⟨10, 0, t1, t2, t3⟩ : CD)]) = ccells acc ++ [.int .i64 10, .int .i32 (0), .string t1, .string t2, .string t3] by rw [ccells_append]; rfl]
                      exact o10
                    have FIN := step_end o4 h (O9) S9 own9 g10 (by omega)
                    go_wp2
                    refine ⟨⟨k + 1, acc ++ [(⟨10, 0, t1, t2, t3⟩ : CD)], _, _, by go_num, by omega, by (show _ = _; simp; exact hal.out), O10, FIN.1, FIN.2, ?_, hokc⟩, by simp [intOf]; omega⟩
                    show _ = _
                    rw [HP'.out, HE2.out.1, HE2.out.2]
                  | false =>
                    rw [hr] at HRR
                    have HE2 : Hid (RC = (⟨10, 0, t1, t2, t3⟩ : CD) ∧ RE = (a8, 14)) := ⟨HE.out.1, by rw [HE.out.2]; unfold tlE; rw [if_pos rfl, if_neg (by rw [hr]; simp)]⟩
                    clear hr HE
                    go_wp2_with fail
                    refine (HRR _).out.mono ?_
                    rintro e w8b ⟨rfl, b9⟩
                    have S9 := S8.below b9
                    have z9 := b9.size
                    go_wp2_with fail
                    refine (reffail_any pr v l a8 0 14 w8b S9 (by omega)).mono ?_
                    rintro e w9 ⟨rfl, S9', on9⟩
                    rw [if_pos rfl] at S9'
                    have O9 := (O8.trans (Only.of_below b9)).trans on9
                    have P9 := (on9.block w5.heap.size (by omega) (by omega)).trans ((b9.block w5.heap.size hpl).trans P8)
                    clear d0 d1 d2 d3 d4 df
                    have own9 := own_only ho4 O9 (by omega)
                    have zz9 := (O9).size
                    obtain ⟨f0, f1, f2, f3, f4, ff⟩ := blk5 P9
                    go_wp2_with (at_builtin; refine wpList_append_own_at _ rfl _ _ 26 rfl w.heap.size 30 i0 _ 5 64 Tryd.underlying26 hi hz0 hz1 hz2 rfl (by decide) _ _ _ rfl (own9.alloc _) _ 1 1 [.int .i64 10, .int .i32 (0), .string t1, .string t2, .string t3] rfl rfl ?q14x1 ?q14x2 ?q14x3 ?q14x4 ?q14x5 ?q14x6)
                    case q14x1 => exact five_new _ _ _ _ _ _
                    case q14x2 => intro u hu; simp at hu; rcases hu with rfl | rfl | rfl | rfl | rfl <;> rfl
                    case q14x3 => have := hal.out; unfold maxLen; omega
                    case q14x4 => have := hal.out; omega
                    case q14x5 => simp; omega
                    intro v10 w10 o10 g10 _ _
                    have O10 : w10.ownsRow w.heap.size 30 5 v10 (acc ++ [(⟨10, 0, t1, t2, t3⟩ : CD)]).length (ccells (acc ++ [(⟨10, 0, t1, t2, t3⟩ : CD)])) := by
                      rw [List.length_append, show ccells (acc ++ [(⟨10, 0, t1, t2, t3⟩ : CD)]) = ccells acc ++ [.int .i64 10, .int .i32 (0), .string t1, .string t2, .string t3] by rw [ccells_append]; rfl]
                      exact o10
                    have FIN := step_end o4 h (O9) S9' own9 g10 (by omega)
                    go_wp2
                    refine ⟨⟨k + 1, acc ++ [(⟨10, 0, t1, t2, t3⟩ : CD)], _, _, by go_num, by omega, by (show _ = _; simp; exact hal.out), O10, FIN.1, FIN.2, ?_, hokc⟩, by simp [intOf]; omega⟩
                    show _ = _
                    rw [HP'.out, HE2.out.1, HE2.out.2]
                · rw [decide_eq_true hy] at hfl8
                  have HE2 : Hid (RC = (⟨10, 0, t1, t2, t3⟩ : CD) ∧ RE = (a8, y8)) := ⟨HE.out.1, by rw [HE.out.2]; unfold tlE; rw [if_neg hy]⟩
                  clear HE
                  clear d0 d1 d2 d3 d4 df
                  have own9 := own_only ho4 O8 (by omega)
                  have zz9 := (O8).size
                  obtain ⟨f0, f1, f2, f3, f4, ff⟩ := blk5 P8
                  go_wp2_with (at_builtin; refine wpList_append_own_at _ rfl _ _ 26 rfl w.heap.size 30 i0 _ 5 64 Tryd.underlying26 hi hz0 hz1 hz2 rfl (by decide) _ _ _ rfl (own9.alloc _) _ 1 1 [.int .i64 10, .int .i32 (0), .string t1, .string t2, .string t3] rfl rfl ?q15x1 ?q15x2 ?q15x3 ?q15x4 ?q15x5 ?q15x6)
                  case q15x1 => rw [show w7.heap.size = ((w7.setCell ⟨w5.heap.size, 4, none⟩ (.string t3))).heap.size by simp [World.setCell]]; exact five_new _ _ _ _ _ _
                  case q15x2 => intro u hu; simp at hu; rcases hu with rfl | rfl | rfl | rfl | rfl <;> rfl
                  case q15x3 => have := hal.out; unfold maxLen; omega
                  case q15x4 => have := hal.out; omega
                  case q15x5 => simp; omega
                  intro v10 w10 o10 g10 _ _
                  have O10 : w10.ownsRow w.heap.size 30 5 v10 (acc ++ [(⟨10, 0, t1, t2, t3⟩ : CD)]).length (ccells (acc ++ [(⟨10, 0, t1, t2, t3⟩ : CD)])) := by
                    rw [List.length_append, show ccells (acc ++ [(⟨10, 0, t1, t2, t3⟩ : CD)]) = ccells acc ++ [.int .i64 10, .int .i32 (0), .string t1, .string t2, .string t3] by rw [ccells_append]; rfl]
                    exact o10
                  have FIN := step_end o4 h (O8) S8 own9 g10 (by omega)
                  go_wp2
                  refine ⟨⟨k + 1, acc ++ [(⟨10, 0, t1, t2, t3⟩ : CD)], _, _, by go_num, by omega, by (show _ = _; simp; exact hal.out), O10, FIN.1, FIN.2, ?_, hokc⟩, by simp [intOf]; omega⟩
                  show _ = _
                  rw [HP'.out, HE2.out.1, HE2.out.2]
              · have hbad : textsB K = false := by simp [textsB]; omega
                have HBB := HB.out hbad
                have n3 : (K == 3) = false := by simpa using k3
                have n7 : (K == 7) = false := by simpa using k7
                have n9 : (K == 9) = false := by simpa using k9
                have n10 : (K == 10) = false := by simpa using k10
                go_wp2_with fail
                refine (reffail_any pr v l a5 y5 12 _ s6 (by omega)).mono ?_
                rintro e w7 ⟨rfl, S8, o7⟩
                have z7 := o7.size
                have O8 := o6.trans o7
                have P8 := (o7.block w5.heap.size (by omega) (by omega)).trans p6
                have hfle : fl y5 12 = if y5 = 0 then 12 else y5 := rfl
                rw [← hfle] at S8
                have hE0 := D.hidIt (tlE_bad (⟨K, 0, ⟨#[]⟩, ⟨#[]⟩, ⟨#[]⟩⟩ : CD) y5)
                clear hfle
                generalize fl y5 12 = y8 at *
                obtain ⟨a8, ha8⟩ : ∃ a8, a8 = a5 := ⟨_, rfl⟩
                subst ha8
                have HE : Hid (RC = (⟨K, 0, ⟨#[]⟩, ⟨#[]⟩, ⟨#[]⟩⟩ : CD) ∧ RE = (a8, tlE (⟨K, 0, ⟨#[]⟩, ⟨#[]⟩, ⟨#[]⟩⟩ : CD) y8)) := by
                  refine ⟨HBB.1, ?_⟩
                  rw [HBB.2, ← hE0.out]
                clear HB HG HN0 HN1 H1
                have hcs' := hcs
                rw [HE.out.1] at hcs'
                have hokc : ∀ x ∈ acc ++ [(⟨K, 0, ⟨#[]⟩, ⟨#[]⟩, ⟨#[]⟩⟩ : CD)], x.Ok := by
                  intro x hx
                  rcases List.mem_append.1 hx with hx | hx
                  · exact hok x hx
                  · simp at hx; subst hx; rw [← HE.out.1]; exact hcok
                have HRR := fun w => D.hidIt (rright_any (⟨K, 0, ⟨#[]⟩, ⟨#[]⟩, ⟨#[]⟩⟩ : CD) w hcs')
                unfold CD.val at HRR
                have z8 := O8.size
                have hpl : w5.heap.size < w7.heap.size := (Array.getElem?_eq_some_iff.1 P8).1
                have hfl8 := S8.flag
                obtain ⟨d0, d1, d2, d3, d4, df⟩ := blk5 P8
                by_cases hy : y8 = 0
                · subst hy
                  simp only [ne_eq, not_true, decide_false] at hfl8
                  cases hr : rightB (⟨K, 0, ⟨#[]⟩, ⟨#[]⟩, ⟨#[]⟩⟩ : CD) with
                  | true =>
                    rw [hr] at HRR
                    have HE2 : Hid (RC = (⟨K, 0, ⟨#[]⟩, ⟨#[]⟩, ⟨#[]⟩⟩ : CD) ∧ RE = (a8, 0)) := ⟨HE.out.1, by rw [HE.out.2]; unfold tlE; rw [if_pos rfl, if_pos hr]⟩
                    clear hr HE
                    go_wp2_with fail
                    refine (HRR _).out.mono ?_
                    rintro e w9 ⟨rfl, b9⟩
                    have S9 := S8.below b9
                    have O9 := O8.trans (Only.of_below b9)
                    have P9 := (b9.block w5.heap.size hpl).trans P8
                    clear d0 d1 d2 d3 d4 df
                    have own9 := own_only ho4 O9 (by omega)
                    have zz9 := (O9).size
                    obtain ⟨f0, f1, f2, f3, f4, ff⟩ := blk5 P9
                    go_wp2_with (at_builtin; refine wpList_append_own_at _ rfl _ _ 26 rfl w.heap.size 30 i0 _ 5 64 Tryd.underlying26 hi hz0 hz1 hz2 rfl (by decide) _ _ _ rfl (own9.alloc _) _ 1 1 [.int .i64 K, .int .i32 (0), .string ⟨#[]⟩, .string ⟨#[]⟩, .string ⟨#[]⟩] rfl rfl ?q4x1 ?q4x2 ?q4x3 ?q4x4 ?q4x5 ?q4x6)
                    case q4x1 => exact five_new _ _ _ _ _ _
                    case q4x2 => intro u hu; simp at hu; rcases hu with rfl | rfl | rfl | rfl | rfl <;> rfl
                    case q4x3 => have := hal.out; unfold maxLen; omega
                    case q4x4 => have := hal.out; omega
                    case q4x5 => simp; omega
                    intro v10 w10 o10 g10 _ _
                    have O10 : w10.ownsRow w.heap.size 30 5 v10 (acc ++ [(⟨K, 0, ⟨#[]⟩, ⟨#[]⟩, ⟨#[]⟩⟩ : CD)]).length (ccells (acc ++ [(⟨K, 0, ⟨#[]⟩, ⟨#[]⟩, ⟨#[]⟩⟩ : CD)])) := by
                      rw [List.length_append, show ccells (acc ++ [(⟨K, 0, ⟨#[]⟩, ⟨#[]⟩, ⟨#[]⟩⟩ : CD)]) = ccells acc ++ [.int .i64 K, .int .i32 (0), .string ⟨#[]⟩, .string ⟨#[]⟩, .string ⟨#[]⟩] by rw [ccells_append]; rfl]
                      exact o10
                    have FIN := step_end o4 h (O9) S9 own9 g10 (by omega)
                    go_wp2
                    refine ⟨⟨k + 1, acc ++ [(⟨K, 0, ⟨#[]⟩, ⟨#[]⟩, ⟨#[]⟩⟩ : CD)], _, _, by go_num, by omega, by (show _ = _; simp; exact hal.out), O10, FIN.1, FIN.2, ?_, hokc⟩, by simp [intOf]; omega⟩
                    show _ = _
                    rw [HP'.out, HE2.out.1, HE2.out.2]
                  | false =>
                    rw [hr] at HRR
                    have HE2 : Hid (RC = (⟨K, 0, ⟨#[]⟩, ⟨#[]⟩, ⟨#[]⟩⟩ : CD) ∧ RE = (a8, 14)) := ⟨HE.out.1, by rw [HE.out.2]; unfold tlE; rw [if_pos rfl, if_neg (by rw [hr]; simp)]⟩
                    clear hr HE
                    go_wp2_with fail
                    refine (HRR _).out.mono ?_
                    rintro e w8b ⟨rfl, b9⟩
                    have S9 := S8.below b9
                    have z9 := b9.size
                    go_wp2_with fail
                    refine (reffail_any pr v l a8 0 14 w8b S9 (by omega)).mono ?_
                    rintro e w9 ⟨rfl, S9', on9⟩
                    rw [if_pos rfl] at S9'
                    have O9 := (O8.trans (Only.of_below b9)).trans on9
                    have P9 := (on9.block w5.heap.size (by omega) (by omega)).trans ((b9.block w5.heap.size hpl).trans P8)
                    clear d0 d1 d2 d3 d4 df
                    have own9 := own_only ho4 O9 (by omega)
                    have zz9 := (O9).size
                    obtain ⟨f0, f1, f2, f3, f4, ff⟩ := blk5 P9
                    go_wp2_with (at_builtin; refine wpList_append_own_at _ rfl _ _ 26 rfl w.heap.size 30 i0 _ 5 64 Tryd.underlying26 hi hz0 hz1 hz2 rfl (by decide) _ _ _ rfl (own9.alloc _) _ 1 1 [.int .i64 K, .int .i32 (0), .string ⟨#[]⟩, .string ⟨#[]⟩, .string ⟨#[]⟩] rfl rfl ?q5x1 ?q5x2 ?q5x3 ?q5x4 ?q5x5 ?q5x6)
                    case q5x1 => exact five_new _ _ _ _ _ _
                    case q5x2 => intro u hu; simp at hu; rcases hu with rfl | rfl | rfl | rfl | rfl <;> rfl
                    case q5x3 => have := hal.out; unfold maxLen; omega
                    case q5x4 => have := hal.out; omega
                    case q5x5 => simp; omega
                    intro v10 w10 o10 g10 _ _
                    have O10 : w10.ownsRow w.heap.size 30 5 v10 (acc ++ [(⟨K, 0, ⟨#[]⟩, ⟨#[]⟩, ⟨#[]⟩⟩ : CD)]).length (ccells (acc ++ [(⟨K, 0, ⟨#[]⟩, ⟨#[]⟩, ⟨#[]⟩⟩ : CD)])) := by
                      rw [List.length_append, show ccells (acc ++ [(⟨K, 0, ⟨#[]⟩, ⟨#[]⟩, ⟨#[]⟩⟩ : CD)]) = ccells acc ++ [.int .i64 K, .int .i32 (0), .string ⟨#[]⟩, .string ⟨#[]⟩, .string ⟨#[]⟩] by rw [ccells_append]; rfl]
                      exact o10
                    have FIN := step_end o4 h (O9) S9' own9 g10 (by omega)
                    go_wp2
                    refine ⟨⟨k + 1, acc ++ [(⟨K, 0, ⟨#[]⟩, ⟨#[]⟩, ⟨#[]⟩⟩ : CD)], _, _, by go_num, by omega, by (show _ = _; simp; exact hal.out), O10, FIN.1, FIN.2, ?_, hokc⟩, by simp [intOf]; omega⟩
                    show _ = _
                    rw [HP'.out, HE2.out.1, HE2.out.2]
                · rw [decide_eq_true hy] at hfl8
                  have HE2 : Hid (RC = (⟨K, 0, ⟨#[]⟩, ⟨#[]⟩, ⟨#[]⟩⟩ : CD) ∧ RE = (a8, y8)) := ⟨HE.out.1, by rw [HE.out.2]; unfold tlE; rw [if_neg hy]⟩
                  clear HE
                  clear d0 d1 d2 d3 d4 df
                  have own9 := own_only ho4 O8 (by omega)
                  have zz9 := (O8).size
                  obtain ⟨f0, f1, f2, f3, f4, ff⟩ := blk5 P8
                  go_wp2_with (at_builtin; refine wpList_append_own_at _ rfl _ _ 26 rfl w.heap.size 30 i0 _ 5 64 Tryd.underlying26 hi hz0 hz1 hz2 rfl (by decide) _ _ _ rfl (own9.alloc _) _ 1 1 [.int .i64 K, .int .i32 (0), .string ⟨#[]⟩, .string ⟨#[]⟩, .string ⟨#[]⟩] rfl rfl ?q6x1 ?q6x2 ?q6x3 ?q6x4 ?q6x5 ?q6x6)
                  case q6x1 => exact five_new _ _ _ _ _ _
                  case q6x2 => intro u hu; simp at hu; rcases hu with rfl | rfl | rfl | rfl | rfl <;> rfl
                  case q6x3 => have := hal.out; unfold maxLen; omega
                  case q6x4 => have := hal.out; omega
                  case q6x5 => simp; omega
                  intro v10 w10 o10 g10 _ _
                  have O10 : w10.ownsRow w.heap.size 30 5 v10 (acc ++ [(⟨K, 0, ⟨#[]⟩, ⟨#[]⟩, ⟨#[]⟩⟩ : CD)]).length (ccells (acc ++ [(⟨K, 0, ⟨#[]⟩, ⟨#[]⟩, ⟨#[]⟩⟩ : CD)])) := by
                    rw [List.length_append, show ccells (acc ++ [(⟨K, 0, ⟨#[]⟩, ⟨#[]⟩, ⟨#[]⟩⟩ : CD)]) = ccells acc ++ [.int .i64 K, .int .i32 (0), .string ⟨#[]⟩, .string ⟨#[]⟩, .string ⟨#[]⟩] by rw [ccells_append]; rfl]
                    exact o10
                  have FIN := step_end o4 h (O8) S8 own9 g10 (by omega)
                  go_wp2
                  refine ⟨⟨k + 1, acc ++ [(⟨K, 0, ⟨#[]⟩, ⟨#[]⟩, ⟨#[]⟩⟩ : CD)], _, _, by go_num, by omega, by (show _ = _; simp; exact hal.out), O10, FIN.1, FIN.2, ?_, hokc⟩, by simp [intOf]; omega⟩
                  show _ = _
                  rw [HP'.out, HE2.out.1, HE2.out.2]
      · have HPP : Hid (RP = (acc, a4, y4)) := by
          show _ = _
          rw [HP.out]
          exact rdL_stop _ _ _ _ _ (by omega)
        have HF : Hid (IsS pr wr v l RP.2.1 RP.2.2 ∧ Only pr w wr) := by
          show _ ∧ _
          rw [HPP.out]
          exact ⟨s4, o4⟩
        clear HP
        by_cases hy : y4 = 0
        · have hkn' : ¬ (k : Int) < (n : Int) := by omega
          have HRO : Hid (RO = acc) := by show _ = _; rw [HO.out, HPP.out, if_pos hy]
          subst hy
          simp only [ne_eq, not_true, decide_false] at hfl4
          go_wp2
          go_ret
          rw [HRO.out]
          exact ⟨_, rfl, ho4, HF.out⟩
        · have HRO : Hid (RO = []) := by show _ = _; rw [HO.out, HPP.out, if_neg hy]
          rw [decide_eq_true hy] at hfl4
          by_cases hkn : k < n
          · have hkn' : (k : Int) < (n : Int) := by omega
            go_wp2
            go_ret
            rw [HRO.out]
            exact ⟨_, rfl, World.ownsRow_nil _ _ _ _, HF.out⟩
          · have hkn' : ¬ (k : Int) < (n : Int) := by omega
            go_wp2
            go_ret
            rw [HRO.out]
            exact ⟨_, rfl, World.ownsRow_nil _ _ _ _, HF.out⟩
