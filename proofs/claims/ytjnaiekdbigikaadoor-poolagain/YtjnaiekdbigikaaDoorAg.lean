/- PoolAgain, walked. -/
import Derived.Test.YtjnaiekdbigikaaDoorAT
import Derived.Test.YtjnaiekdbigikaaDoorAB
import Derived.Test.YtjnaiekdbigikaaDoorPG
import Derived.Test.YtjnaiekdbigikaaDoorPN
import Derived.Deep.RegionWith
import Derived.Deep.CutRange
import Derived.Deep.QuietTactic
import Derived.BigQuiet
import Derived.Deep.LoopGhost
namespace Go.Proofs.YtjnaiekdbigikaaDoor
open Go.RowKit

/-- The right ones that were kept. -/
structure Fine (w wr : World) (acc : List CD) (fv : Value) (k : Nat) : Prop where
  below : Below w.heap.size w wr
  own : wr.ownsRow w.heap.size 30 5 fv acc.length (ccells acc)
  right : ∀ c ∈ acc, rightB c = true ∧ c.Ok
  len : acc.length ≤ k

theorem wstepb {pw C : Nat} {v v' : Value} {w w' : World} (st : WStep pw v w v' w') (hp : C ≤ pw) (hC : C ≤ w.heap.size) (hv : ∀ k, v.ownBlock = some k → C ≤ k) : Below C w w' :=
  ⟨st.os, st.tape, st.output, st.size, fun k hk => st.block k (by omega) (by omega) (fun e => by have := hv k e.symm; omega)⟩

set_option maxRecDepth 8000 in
set_option maxHeartbeats 4000000 in
theorem again_any (v vm : Value) (l : List CD) (more : List Int) (w : World) (hT : Tabs w) (hv : CView w v l) (hvm : View w vm more) (hmore : more.length ≤ 140737488355328) :
    Calls Tryd.prog 6 #[v, vm] w fun e w' => e = .returned (.bool true) ∧ Below w.heap.size w w' := by
  obtain ⟨i0, hi, hz0, hz1, hz2⟩ := info_parts Tryd.info30
  have h2 := hT.size
  obtain ⟨ao, cap, rfl, hc, hm, hok, hl⟩ := id hv
  obtain ⟨mo, mcap, rfl, hmc, hmm, hmb, hml⟩ := id hvm
  unfold maxLen at hm hmm
  go_enter Tryd.func6, Tryd.ntmps6
  go_wp2
  go_loopw [5, 6] (fun fv i wr => ∃ (k : Nat) (acc : List CD), i = .int .i64 (k : Int) ∧ k ≤ l.length ∧ k ≤ 60 ∧ Hid (Fine w wr acc fv k)) (fun _ i _ => 60 - (intOf i).toNat)
  case atStart =>
    exact ⟨0, [], rfl, by omega, by omega, Below.refl _ _, World.ownsRow_nil _ _ _ _, by simp, by simp⟩
  case round =>
    obtain ⟨k, acc, rfl, hk, hk60, HA⟩ := hrel
    by_cases hlt : k < l.length ∧ k < 60
    · obtain ⟨hlt, hlt6⟩ := hlt
      have hlt' : (k : Int) < (l.length : Int) := by omega
      have hlt6' : (k : Int) < 60 := by omega
      have hbw := HA.out.below
      have hsw := hbw.size
      obtain ⟨g, off, rfl, hla⟩ : ∃ g off, ao = some ⟨g, off, none⟩ ∧ CLies w g off l := by
        rcases hl with e | h
        · rw [e] at hlt; simp at hlt
        · exact h
      have hd := (hla k l[k] (by simp [hlt])).below hbw
      have hokd := hok l[k] (by simp)
      generalize l[k] = c at *
      have HR := fun w => D.hidIt (right_any c w hokd.toFits)
      obtain ⟨fao, fcap, rfl⟩ := cown_slice HA.out.own
      have hfl := HA.out.len
      obtain ⟨d0, d1, d2, d3, d4⟩ := id hd
      clear hla hl
      unfold CD.val at HR
      cases hr : rightB c with
      | false =>
        rw [hr] at HR
        clear hr
        go_wp2_with fail
        refine (HR _).out.mono ?_
        rintro e w3 ⟨rfl, b3⟩
        have B3 := hbw.trans (b3.mono (by omega))
        have f3 := gown_below HA.out.own b3
        go_wp2
        exact ⟨⟨k + 1, acc, by go_num, by omega, by omega, B3, f3, HA.out.right, by omega⟩, by simp [intOf]; omega⟩
      | true =>
        rw [hr] at HR
        have HRT := D.hidIt hr
        clear hr
        go_wp2_with fail
        refine (HR _).out.mono ?_
        rintro e w3 ⟨rfl, b3⟩
        have B3 := hbw.trans (b3.mono (by omega))
        have f3 := gown_below HA.out.own b3
        have s3 := B3.size
        obtain ⟨e0, e1, e2, e3, e4⟩ := hd.below b3
        go_wp2_with (at_builtin; refine wpList_append_own_at _ rfl _ _ 26 rfl w.heap.size 30 i0 _ 5 64 Tryd.underlying26 hi hz0 hz1 hz2 rfl (by decide) _ _ _ rfl (f3.alloc _) _ 1 1 [.int .i64 c.kind, .int .i32 c.n, .string c.cls, .string c.nm, .string c.dsc] rfl rfl ?q1 ?q2 ?q3 ?q4 ?q5 ?q6)
        case q1 =>
          intro j u hj
          match j, hj with
          | 0, hj => simp at hj; subst hj; simp [Addr.add]
          | 1, hj => simp at hj; subst hj; simp [Addr.add]
          | 2, hj => simp at hj; subst hj; simp [Addr.add]
          | 3, hj => simp at hj; subst hj; simp [Addr.add]
          | 4, hj => simp at hj; subst hj; simp [Addr.add]
          | (j + 5), hj => simp at hj
        case q2 => intro u hu; simp at hu; rcases hu with rfl | rfl | rfl | rfl | rfl <;> rfl
        case q3 => unfold maxLen; omega
        case q4 => omega
        case q5 => simp; omega
        intro v4 w4 o4 g4 _ _
        have B4 : Below w.heap.size w w4 := (B3.alloc (by omega) _).grown g4 (by simp; omega) (fun k hk => (f3.lt k hk).1)
        have O4 : w4.ownsRow w.heap.size 30 5 v4 (acc ++ [c]).length (ccells (acc ++ [c])) := by
          rw [List.length_append, show ccells (acc ++ [c]) = ccells acc ++ [.int .i64 c.kind, .int .i32 c.n, .string c.cls, .string c.nm, .string c.dsc] by rw [ccells_append]; rfl]
          exact o4
        go_wp2
        refine ⟨⟨k + 1, acc ++ [c], by go_num, by omega, by omega, B4, O4, ?_, by simp; omega⟩, by simp [intOf]; omega⟩
        intro x hx
        rcases List.mem_append.1 hx with hx | hx
        · exact HA.out.right x hx
        · simp at hx; subst hx; exact ⟨HRT.out, hokd⟩
    · have hlt' : ¬ ((k : Int) < (l.length : Int) ∧ (k : Int) < 60) := by omega
      have hbw := HA.out.below
      have hsw := hbw.size
      obtain ⟨fao, fcap, rfl⟩ := cown_slice HA.out.own
      have hfl := HA.out.len
      have hwc : wcode acc = 0 := by
        unfold wcode
        rw [if_neg (by omega), if_pos (List.all_eq_true.2 fun c hc => (HA.out.right c hc).1)]
      have hwp : wput acc = poolZ acc := by unfold wput; rw [if_pos hwc]
      have hpb : AllBytes (poolZ acc) := (be_bytes _ _).append (ents_bytes _)
      have hpl : (poolZ acc).length ≤ 1000000 := by
        unfold poolZ
        have := ents_len acc
        rw [List.length_append, be_len]; omega
      have hrd := rdP_at acc more HA.out.right (by omega)
      have hfv : CView wr (.slice fao acc.length fcap) acc := CView.of_own HA.out.own (fun c hc => (HA.out.right c hc).2)
      have hmv := hvm.below hbw
      have hTr := hT.below hbw
      have hfblk : ∀ k, (Value.slice fao acc.length fcap).ownBlock = some k → k < wr.heap.size := fun k hk => (HA.out.own.lt k hk).2
      have HN := D.hidIt (newW_any wr)
      have HWr : ∀ w4, w4 = wr.alloc (.cells #[.slice none 0 0] 73) → Hid (Calls Tryd.prog 10 #[.pointer (some ⟨wr.heap.size, 0, none⟩), .slice fao acc.length fcap] w4 fun e w' => e = .returned (.int .i64 0) ∧ ∃ v1, IsW wr.heap.size wr.heap.size w' v1 (poolZ acc) ∧ Below wr.heap.size wr w' ∧ wr.heap.size < w'.heap.size) := by
        intro w4 e4
        have b4 : Below wr.heap.size wr w4 := by rw [e4]; exact (Below.refl _ _).alloc (Nat.le_refl _) _
        have z4 : w4.heap.size = wr.heap.size + 1 := by rw [e4]; simp
        have W4 : IsW wr.heap.size wr.heap.size w4 (.slice none 0 0) [] := by rw [e4]; exact newW_is wr _
        have := write_any wr.heap.size wr.heap.size (.slice none 0 0) _ [] acc w4 W4 (by omega) (by omega) (by simp) (hTr.below b4) (hfv.below b4) (fun k hk => ⟨by have := hfblk k hk; omega, by simp [Value.ownBlock]⟩)
        rw [hwc, hwp, List.nil_append] at this
        refine this.mono ?_
        rintro e w5 ⟨rfl, v5, W5, st5⟩
        have z5 := st5.size
        exact ⟨rfl, v5, W5, b4.trans (wstepb st5 (Nat.le_refl _) (by omega) (fun k hk => by simp [Value.ownBlock] at hk)), by omega⟩
      clear hl hok hc hm
      rcases (by omega : ((k : Int) < (l.length : Int) ∧ ¬ (k : Int) < 60) ∨ ¬ (k : Int) < (l.length : Int)) with ⟨h1, h6⟩ | h1
      all_goals
        go_wp2_with fail
        refine HN.out.mono ?_
        rintro e w4 ⟨rfl, hw4⟩
        have HW4 := HWr w4 hw4
        clear hw4
        go_wp2_with fail
        refine HW4.out.mono ?_
        rintro e w5 ⟨rfl, v5, W5, b5, z5⟩
        have HB := D.hidIt (wbytes_big wr.heap.size wr.heap.size v5 _ (poolZ acc) more w5 W5 (hmv.below b5) (by omega) (by omega))
        go_wp2_with fail
        refine HB.out.mono ?_
        rintro e w6 ⟨rfl, v6, W6, st6⟩
        have z6 := st6.size
        have b6 : Below wr.heap.size wr w6 := b5.trans (wstepb st6 (Nat.le_refl _) (by omega) (fun k hk => (W5.own.lt k hk).1))
        have hall : AllBytes (poolZ acc ++ more) := hpb.append hmb
        have hLl : (poolZ acc ++ more).length ≤ 200000000000000 := by rw [List.length_append]; omega
        have hLi : Hid (((poolZ acc ++ more).length : Int) - ((poolZ acc).length : Int) = (more.length : Int)) := by show _ = _; rw [List.length_append]; omega
        have HRP := D.hidIt hrd
        generalize poolZ acc ++ more = L at *
        generalize (poolZ acc).length = P at *
        have HD := D.hidIt (done_big _ _ v6 L w6 W6 hall hLl)
        clear hrd hwp hwc
        go_wp2_with fail
        refine HD.out.mono ?_
        rintro e w7 ⟨b7, v7, rfl, o7⟩
        have V7 := View.of_own o7 hall
        obtain ⟨ao7, cap7, rfl⟩ := own_slice o7
        have HNR := D.hidIt (newR_big _ _ w7 V7 hLl)
        go_wp2_with fail
        refine HNR.out.mono ?_
        rintro e w8 ⟨b8, pr, v8, rfl, hpr, r8, _⟩
        have z7 := b7.size
        have z8 := b8.size
        have b68 : Below wr.heap.size wr w8 := b6.trans ((b7.mono (by omega)).trans (b8.mono (by omega)))
        have HRd := D.hidIt (read_any pr v8 L 0 0 w8 r8)
        rw [HRP.out.1, HRP.out.2] at HRd
        simp only at HRd
        go_wp2_with fail
        refine HRd.out.mono ?_
        rintro e w9 ⟨v9, rfl, o9, r9, on9⟩
        have V9 : CView w9 v9 acc := CView.of_own o9 (fun c hc => (HA.out.right c hc).2)
        obtain ⟨ao9, cap9, rfl⟩ := cown_slice o9
        have z9 := on9.size
        have b9 : Below w7.heap.size w7 w9 := ⟨on9.os.trans b8.os, on9.tape.trans b8.tape, on9.output.trans b8.output, by omega, fun k hk => (on9.block k (by omega) (by omega)).trans (b8.block k hk)⟩
        have b79 : Below wr.heap.size wr w9 := b6.trans ((b7.mono (by omega)).trans (b9.mono (by omega)))
        go_wp2_with fail
        refine (csame_any _ _ acc w9 V9 (hfv.below b79)).mono ?_
        rintro e w10 ⟨rfl, q10, rfl⟩
        have r10 := r9.drewN q10
        have b10 := below_drewN b79 q10
        generalize w9.drewN q10 = w10 at *
        have HLf := D.hidIt (left_any pr v8 L P w10 r10)
        rw [hLi.out] at HLf
        go_wp2_with fail
        refine HLf.out.mono ?_
        rintro e w11 ⟨rfl, q11, rfl⟩
        have b11 := below_drewN b10 q11
        generalize w10.drewN q11 = w11 at *
        have z11 := b11.size
        go_wp2_with fail
        refine (known_any w11 (hTr.below b11)).mono ?_
        rintro e w12 ⟨rfl, b12⟩
        go_wp2
        go_ret
        exact ⟨rfl, hbw.trans ((b11.trans (b12.mono (by omega))).mono (by omega))⟩
end Go.Proofs.YtjnaiekdbigikaaDoor
