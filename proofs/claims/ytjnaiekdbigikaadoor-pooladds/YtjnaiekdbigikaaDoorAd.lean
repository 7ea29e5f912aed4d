/- PoolAdds: walked. -/
import Derived.Test.YtjnaiekdbigikaaDoorPN
import Derived.Deep.RegionWith
import Derived.Deep.RegionLaw
import Derived.Deep.QuietTactic
import Derived.BigQuiet
import Derived.Deep.CutRange
import Derived.Deep.LoopGhost
namespace Go.Proofs.YtjnaiekdbigikaaDoor
open Go.RowKit

theorem Tryd.info3 : (Tryd.prog.info? 3).map (fun i => (i.zero, i.size, i.bytes)) = some (some (.int .i64 0), 1, 8) := by kernel_rfl
def acells (l : List Int) : List Value := l.map (Value.int .i64)
theorem acells_snoc (l : List Int) (x : Int) : acells (l ++ [x]) = acells l ++ [.int .i64 x] := by simp [acells]

theorem idxO_snoc {c d : CD} {l : List CD} {k : Nat} (h : idxO c l = some k) : idxO c (l ++ [d]) = some k := by
  induction l generalizing k with
  | nil => cases h
  | cons x l ih =>
    unfold idxO at h
    simp only [List.cons_append, idxO]
    split at h
    · rename_i he; cases h; rw [if_pos he]
    · rename_i he
      cases hi : idxO c l with
      | none => rw [hi] at h; cases h
      | some j =>
        rw [hi] at h; simp at h; subst h
        rw [if_neg he, ih hi]; rfl
theorem idxO_last {c : CD} {l : List CD} (h : idxO c l = none) : idxO c (l ++ [c]) = some l.length := by
  induction l with
  | nil =>
    have : ceq c c = true := (ceq_iff c c).2 rfl
    simp [idxO, this]
  | cons x l ih =>
    unfold idxO at h
    simp only [List.cons_append, idxO]
    split at h
    · cases h
    · rename_i he
      cases hi : idxO c l with
      | none => rw [if_neg he, ih hi]; rfl
      | some j => rw [hi] at h; cases h

theorem Below.drewed {B : Nat} {a w : World} (h : Below B a w) : Below B a w.drew := ⟨h.os, h.tape, h.output, h.size, h.block⟩
theorem set_row {w : World} {g j : Nat} {cur : Array Value} {T : TypeId} {u : Value} (h : w.heap[g]? = some (.cells cur T (0, 0))) : (w.setCell ⟨g, j, none⟩ u).heap[g]? = some (.cells (cur.setIfInBounds j u) T (0, 0)) := by
  simp only [World.setCell, Array.getElem?_modify, if_pos, h, Option.map_some]
  try simp
/-- A constant is put over another one. -/
theorem put5 {w : World} {g : Nat} {a0 a1 a2 a3 a4 : Value} {c : CD} (h : w.heap[g]? = some (.cells #[a0, a1, a2, a3, a4] 30 (0, 0))) :
    CAt (((((w.setCell ⟨g, 0, none⟩ (.int .i64 c.kind)).setCell ⟨g, 1, none⟩ (.int .i32 c.n)).setCell ⟨g, 2, none⟩ (.string c.cls)).setCell ⟨g, 3, none⟩ (.string c.nm)).setCell ⟨g, 4, none⟩ (.string c.dsc)) g 0 c ∧
    Below g w (((((w.setCell ⟨g, 0, none⟩ (.int .i64 c.kind)).setCell ⟨g, 1, none⟩ (.int .i32 c.n)).setCell ⟨g, 2, none⟩ (.string c.cls)).setCell ⟨g, 3, none⟩ (.string c.nm)).setCell ⟨g, 4, none⟩ (.string c.dsc)) := by
  have h5 := set_row (j := 4) (u := .string c.dsc) (set_row (j := 3) (u := .string c.nm) (set_row (j := 2) (u := .string c.cls) (set_row (j := 1) (u := .int .i32 c.n) (set_row (j := 0) (u := .int .i64 c.kind) h))))
  refine ⟨?_, ?_⟩
  · constructor
    all_goals rw [cell_of_row _ _ _ _ 30 (0, 0) h5]; rfl
  · have s : ∀ (w : World) (o : Nat) (u : Value), Below g w (w.setCell ⟨g, o, none⟩ u) := fun w o u => ⟨rfl, rfl, rfl, by simp [World.setCell], fun k hk => Below.heap_setCell _ _ _ _ (fun e => by simp only at e; omega)⟩
    exact ((((s _ _ _).trans (s _ _ _)).trans (s _ _ _)).trans (s _ _ _)).trans (s _ _ _)

/-- What has been added when k of l have been seen. -/
structure AddInv (w wr : World) (l p : List CD) (ats : List Int) (pv av : Value) (k : Nat) : Prop where
  below : Below w.heap.size w wr
  pown : wr.ownsRow w.heap.size 30 5 pv p.length (ccells p)
  aown : wr.ownsRow w.heap.size 3 1 av k (acells ats)
  alen : ats.length = k
  pok : ∀ c ∈ p, c.Ok
  plen : p.length ≤ k
  fits : ∀ i c, i < k → l[i]? = some c → (rightB c = true → ∃ j : Nat, ats[i]? = some (j : Int) ∧ idxO c p = some j) ∧ (rightB c = false → ats[i]? = some (-1))

theorem iown_slice {w : World} {B n : Nat} {v : Value} {xs : List Value} (h : w.ownsRow B 3 1 v n xs) : ∃ ao cap, v = .slice ao n cap := by
  rcases h.2 with ⟨rfl, rfl⟩ | ⟨g, cap, cur, rfl, _⟩
  · exact ⟨_, _, rfl⟩
  · exact ⟨_, _, rfl⟩
/-- A row stands where nothing but another row's block turned. -/
theorem own_grown {w w' : World} {B e s n : Nat} {v : Value} {xs : List Value} {row : Option Nat} (h : w.ownsRow B e s v n xs) (hg : w.grownBy w' row) (hne : ∀ k, v.ownBlock = some k → some k ≠ row) : w'.ownsRow B e s v n xs := by
  refine ⟨h.1, ?_⟩
  rcases h.2 with x | ⟨g, cap, cur, rfl, hb, hg2, r⟩
  · exact .inl x
  · exact .inr ⟨g, cap, cur, rfl, hb, (hg.block g (Array.getElem?_eq_some_iff.1 hg2).1 (hne g rfl)).trans hg2, r⟩
theorem own_below {w w' : World} {B e s n : Nat} {v : Value} {xs : List Value} (h : w.ownsRow B e s v n xs) (hb : Below w.heap.size w w') : w'.ownsRow B e s v n xs := by
  refine ⟨h.1, ?_⟩
  rcases h.2 with x | ⟨g, cap, cur, rfl, hB, hg2, r⟩
  · exact .inl x
  · exact .inr ⟨g, cap, cur, rfl, hB, (hb.block g (Array.getElem?_eq_some_iff.1 hg2).1).trans hg2, r⟩
/-- Rows of unlike elements lie in unlike blocks. -/
theorem own_apart {w : World} {B B' e e' s s' n n' : Nat} {v v' : Value} {xs xs' : List Value} (h : w.ownsRow B e s v n xs) (h' : w.ownsRow B' e' s' v' n' xs') (he : e ≠ e') : ∀ k, v.ownBlock = some k → some k ≠ v'.ownBlock := by
  intro k hk e2
  rcases h.2 with ⟨rfl, _⟩ | ⟨g, cap, cur, rfl, _, hg, _⟩
  · simp [Value.ownBlock] at hk
  · rcases h'.2 with ⟨rfl, _⟩ | ⟨g', cap', cur', rfl, _, hg', _⟩
    · simp [Value.ownBlock] at e2
    · simp [Value.ownBlock] at hk e2
      subst hk
      subst e2
      rw [hg] at hg'
      simp at hg'
      exact he hg'.2

theorem addZ_right {p : List CD} {c : CD} (hr : rightB c = true) (hp : p.length < 256) : ∃ (q : List CD) (j : Nat), addZ p c = (q, (j : Int), 0) ∧ q.take p.length = p ∧ p.length ≤ q.length ∧ q.length ≤ p.length + 1 ∧
    idxO c q = some j ∧ (∀ d i, idxO d p = some i → idxO d q = some i) ∧ (∀ d ∈ q, d ∈ p ∨ d = c) := by
  cases hk : idxO c p with
  | some k => exact ⟨p, k, addZ_has hr hk, by simp, by omega, by omega, hk, fun _ _ h => h, fun _ h => .inl h⟩
  | none => exact ⟨p ++ [c], p.length, addZ_more hr hk (by omega), by simp, by simp, by simp, idxO_last hk, fun _ _ h => idxO_snoc h, fun d h => by simpa using h⟩
theorem CView.take {w : World} {ao : Option Addr} {n cap : Nat} {l : List CD} (h : CView w (.slice ao l.length cap) l) (hn : n ≤ l.length) : CView w (.slice ao n cap) (l.take n) := by
  obtain ⟨ao', cap', e, hc, hm, hk, hl⟩ := h
  cases e
  refine ⟨ao, cap, by rw [List.length_take, Nat.min_eq_left hn], by rw [List.length_take]; omega, hm, fun c hc => hk c (List.mem_of_mem_take hc), ?_⟩
  rcases hl with rfl | ⟨g, off, e, hl⟩
  · exact .inl (by simp)
  · refine .inr ⟨g, off, e, fun i c hi => hl i c ?_⟩
    rw [List.getElem?_take] at hi
    split at hi
    · exact hi
    · cases hi
theorem own_drewN {w : World} {B e s n : Nat} {v : Value} {xs : List Value} (h : w.ownsRow B e s v n xs) (q : Nat) : (w.drewN q).ownsRow B e s v n xs := h

set_option maxRecDepth 8000 in
set_option maxHeartbeats 4000000 in
theorem adds_any (v : Value) (l : List CD) (w : World) (hT : Tabs w) (hv : CView w v l) :
    Calls Tryd.prog 8 #[v] w fun e w' => e = .returned (.bool true) ∧ Below w.heap.size w w' := by
  obtain ⟨i3, hi3, hy0, hy1, hy2⟩ := info_parts Tryd.info3
  obtain ⟨ao, cap, rfl, hc, hm, hok, hl⟩ := id hv
  unfold maxLen at hm
  go_enter Tryd.func8, Tryd.ntmps8
  go_wp2
  go_loopw [3, 4, 5] (fun pv av i wr => ∃ (k : Nat) (p : List CD) (ats : List Int), i = .int .i64 (k : Int) ∧ k ≤ l.length ∧ k ≤ 60 ∧ Hid (AddInv w wr l p ats pv av k)) (fun _ _ i _ => 60 - (intOf i).toNat)
  case atStart =>
    exact ⟨0, [], [], rfl, by omega, by omega, Below.refl _ _, World.ownsRow_nil _ _ _ _, World.ownsRow_nil _ _ _ _, rfl, by simp, by simp, fun i c hi => by omega⟩
  case round =>
    obtain ⟨k, p, ats, rfl, hk, hk60, HA⟩ := hrel
    by_cases hlt : k < l.length ∧ k < 60
    · obtain ⟨hlt, hlt6⟩ := hlt
      have hlt' : (k : Int) < (l.length : Int) := by omega
      have hlt6' : (k : Int) < 60 := by omega
      have hbw := HA.out.below
      have hsw := hbw.size
      obtain ⟨g, off, rfl, hla⟩ : ∃ g off, ao = some ⟨g, off, none⟩ ∧ CLies w g off l := by
        rcases hl with e | h
        · rw [e] at hlt; simp at hlt
        · exact h
      have hd := (hla k l[k] (by simp [hlt])).below hbw
      have hokd := hok l[k] (by simp)
      have HL : Hid (l[k]? = some l[k]) := by show _ = _; simp [hlt]
      generalize l[k] = c at *
      obtain ⟨pao, pcap, rfl⟩ := cown_slice HA.out.pown
      have hpl := HA.out.plen
      have hpv := CView.of_own HA.out.pown HA.out.pok
      have HAdd := D.hidIt (add_any _ p c wr hpv hokd (by omega))
      have HR := fun w => D.hidIt (right_any c w hokd.toFits)
      obtain ⟨aao, acap, rfl⟩ := iown_slice HA.out.aown
      obtain ⟨d0, d1, d2, d3, d4⟩ := id hd
      clear hla hl
      unfold CD.val at HAdd HR
      cases hr : rightB c with
      | false =>
        rw [addZ_no hr] at HAdd
        rw [hr] at HR
        have HRT := D.hidIt hr
        clear hr
        simp only at HAdd
        go_wp2_with fail
        refine HAdd.out.mono ?_
        rintro e w2 ⟨b2, v2, rfl, o2⟩
        obtain ⟨ao2, cap2, rfl⟩ := cown_slice o2
        obtain ⟨e0, e1, e2, e3, e4⟩ := hd.below b2
        have s2 := b2.size
        go_wp2_with fail
        refine (HR _).out.mono ?_
        rintro e w3 ⟨rfl, b3⟩
        have s3 := b3.size
        have a3 := own_below (own_below HA.out.aown b2) b3
        have p3 := own_below (own_below HA.out.pown b2) b3
        have B3 := hbw.trans ((b2.mono (by omega)).trans (b3.mono (by omega)))
        go_wp2_with (at_builtin; refine wpList_append_own_at _ rfl _ _ 71 rfl w.heap.size 3 i3 (.int .i64 0) 1 8 Tryd.underlying71 hi3 hy0 hy1 hy2 rfl (by decide) _ _ _ rfl (a3.alloc _) _ 1 1 [.int .i64 (-1)] rfl rfl ?c1 ?c2 ?c3 ?c4 ?c5 ?_)
        case c1 =>
          intro j u hj
          match j, hj with
          | 0, hj => simp at hj; subst hj; simp [Addr.add]
          | (j + 1), hj => simp at hj
        case c2 => intro u hu; simp at hu; rcases hu with rfl; rfl
        case c3 => unfold maxLen; omega
        case c4 => omega
        case c5 => simp; omega
        intro v4 w4 o4 g4 _ _
        have B4 : Below w.heap.size w w4 := (B3.alloc (by omega) _).grown g4 (by simp; omega) (fun k hk => (a3.lt k hk).1)
        have p4 := own_grown (p3.alloc _) g4 (own_apart p3 a3 (by decide))
        go_wp2
        refine ⟨⟨k + 1, p, ats ++ [-1], by go_num, by omega, by omega, B4, p4, ?_, by have := HA.out.alen; simp; omega, HA.out.pok, by omega, ?_⟩, by simp [intOf]; omega⟩
        · rw [acells_snoc]; exact o4
        · intro i d hi hdi
          have hal := HA.out.alen
          by_cases e : i = k
          · subst e
            rw [HL.out] at hdi; cases hdi
            exact ⟨fun h => (by rw [HRT.out] at h; cases h), fun _ => (by rw [List.getElem?_append_right (by omega)]; simp [hal])⟩
          · have := HA.out.fits i d (by omega) hdi
            rw [List.getElem?_append_left (by omega)]
            exact this
      | true =>
        obtain ⟨q, j, hq, hqt, hq1, hq2, hqi, hqm, hqc⟩ := addZ_right (p := p) hr (by omega)
        rw [hq] at HAdd
        rw [hr] at HR
        have HRT := D.hidIt hr
        clear hr hq
        simp only at HAdd
        have hqok : ∀ d ∈ q, d.Ok := fun d hd => (hqc d hd).elim (HA.out.pok d) (fun e => e ▸ hokd)
        have HQ : Hid (q.take p.length = p ∧ idxO c q = some j ∧ (∀ d i, idxO d p = some i → idxO d q = some i)) := ⟨hqt, hqi, hqm⟩
        clear hqt hqi hqm hqc
        go_wp2_with fail
        refine HAdd.out.mono ?_
        rintro e w2 ⟨b2, v2, rfl, o2⟩
        have V2 := CView.of_own o2 hqok
        obtain ⟨ao2, cap2, rfl⟩ := cown_slice o2
        obtain ⟨e0, e1, e2, e3, e4⟩ := hd.below b2
        have s2 := b2.size
        go_wp2_with fail
        refine (HR _).out.mono ?_
        rintro e w3 ⟨rfl, b3⟩
        have s3 := b3.size
        have a3 := own_below (own_below HA.out.aown b2) b3
        have q3 := own_base (own_below o2 b3) hsw
        have B3 := hbw.trans ((b2.mono (by omega)).trans (b3.mono (by omega)))
        have V3 := V2.below b3
        have P3 := (hpv.below b2).below b3
        have T3 := V3.take hq1
        rw [HQ.out.1] at T3
        have hlt1 : ¬ (q.length : Int) < (p.length : Int) := by omega
        obtain ⟨_, _, ee, hqc2, hqm2, _⟩ := id V3
        cases ee
        unfold maxLen at hqm2
        have hcap2 : (p.length : Int) ≤ (cap2 : Int) := by omega
        go_wp2_with fail
        refine (csame_any _ _ p _ T3 P3).mono ?_
        rintro e w4 ⟨rfl, q4, rfl⟩
        have a4 := own_drewN a3 q4
        have q4' := own_drewN q3 q4
        have B4 := below_drewN B3 q4
        have s4 : w.heap.size ≤ (w3.drewN q4).heap.size := B4.size
        generalize w3.drewN q4 = w4 at *
        go_wp2_with (at_builtin; refine wpList_append_own_at _ rfl _ _ 71 rfl w.heap.size 3 i3 (.int .i64 0) 1 8 Tryd.underlying71 hi3 hy0 hy1 hy2 rfl (by decide) _ _ _ rfl (a4.alloc _) _ 1 1 [.int .i64 (j : Int)] rfl rfl ?c1 ?c2 ?c3 ?c4 ?c5 ?_)
        case c1 =>
          intro j u hj
          match j, hj with
          | 0, hj => simp at hj; subst hj; simp [Addr.add]
          | (j + 1), hj => simp at hj
        case c2 => intro u hu; simp at hu; rcases hu with rfl; rfl
        case c3 => unfold maxLen; omega
        case c4 => omega
        case c5 => simp; omega
        intro v5 w5 o5 g5 _ _
        have B5 : Below w.heap.size w w5 := (B4.alloc (by omega) _).grown g5 (by simp; omega) (fun k hk => (a4.lt k hk).1)
        have p5 := own_grown (q4'.alloc _) g5 (own_apart q4' a4 (by decide))
        go_wp2
        refine ⟨⟨k + 1, q, ats ++ [(j : Int)], by go_num, by omega, by omega, B5, p5, ?_, by have := HA.out.alen; simp; omega, hqok, by omega, ?_⟩, by simp [intOf]; omega⟩
        · rw [acells_snoc]; exact o5
        · intro i d hi hdi
          have hal := HA.out.alen
          by_cases e : i = k
          · subst e
            rw [HL.out] at hdi; cases hdi
            exact ⟨fun _ => ⟨j, (by rw [List.getElem?_append_right (by omega)]; simp [hal]), HQ.out.2.1⟩, fun h => (by rw [HRT.out] at h; cases h)⟩
          · have := HA.out.fits i d (by omega) hdi
            rw [List.getElem?_append_left (by omega)]
            exact ⟨fun h => (this.1 h).imp fun j hj => ⟨hj.1, HQ.out.2.2 _ _ hj.2⟩, this.2⟩
    · have B1 := HA.out.below
      have s1 := B1.size
      obtain ⟨pao, pcap, rfl⟩ := cown_slice HA.out.pown
      obtain ⟨aao, acap, rfl⟩ := iown_slice HA.out.aown
      have hpl := HA.out.plen
      have hend : ¬ (k : Int) < (l.length : Int) ∨ ¬ (k : Int) < 60 := by omega
      have hpv := CView.of_own HA.out.pown HA.out.pok
      clear hlt
      go_upto_region 4 with fail
      go_cut [22] from 15 to 66 (fun s22 wx => s22 = .bool false ∧ wx = wr)
      case first =>
        rcases hend with hend | hend
        · go_wp2
          all_goals
            go_meet
            exact ⟨rfl, rfl⟩
        · go_wp2
          all_goals
            go_meet
            exact ⟨rfl, rfl⟩
      case rest =>
        obtain ⟨rfl, hwc⟩ := hcut
        subst hwc
        go_wp2
        generalize wc = W1 at *
        go_loopw [9] (fun i wx => ∃ (j : Nat), i = .int .i64 (j : Int) ∧ j ≤ k ∧ Below W1.heap.size W1 wx) (fun i _ => k - (intOf i).toNat)
        case atStart => exact ⟨0, rfl, by omega, Below.refl _ _⟩
        case round =>
          obtain ⟨j, rfl, hj, hbx⟩ := hrel
          have sx := hbx.size
          have BX := B1.trans (hbx.mono s1)
          by_cases hjk : j < k
          · have hjk' : (j : Int) < (k : Int) := by omega
            have hjl : j < l.length := by omega
            obtain ⟨g, off, rfl, hla⟩ : ∃ g off, ao = some ⟨g, off, none⟩ ∧ CLies w g off l := by
              rcases hl with e | h
              · rw [e] at hjl; simp at hjl
              · exact h
            have hd := (hla j l[j] (by simp [hjl])).below BX
            have hokd := hok l[j] (by simp)
            have hfit := HA.out.fits j l[j] hjk (by simp [hjl])
            have hjl' : (j : Int) < (l.length : Int) := by omega
            generalize l[j] = c at *
            obtain ⟨ga, rfl, hga⟩ : ∃ ga, aao = some ⟨ga, 0, none⟩ ∧ ∀ x, ats[j]? = some x → wr.cell? ⟨ga, j, none⟩ = some (.int .i64 x) := by
              have ha := own_below HA.out.aown hbx
              rcases ha.2 with ⟨e, h0⟩ | ⟨g, cap, cur, e, _⟩
              · omega
              · cases e
                refine ⟨g, rfl, fun x hx => ?_⟩
                have := ha.cells (g := g) rfl j (.int .i64 x) (by simp [acells, hx])
                rw [addr_add, Nat.zero_add] at this
                exact this
            clear hla hl
            have hacap : (k : Int) ≤ (acap : Int) := by
              rcases HA.out.aown.2 with ⟨e, h0⟩ | ⟨g, cap, cur, e, _, _, hkc, _⟩
              · cases e
              · cases e; omega
            cases hr : rightB c with
            | false =>
              have ca := hga _ (hfit.2 hr)
              clear hr hga hfit
              go_wp2
              exact ⟨⟨j + 1, by go_num, by omega, hbx⟩, by simp [intOf]; omega⟩
            | true =>
              obtain ⟨m, hm1, hm2⟩ := hfit.1 hr
              have ca := hga _ hm1
              have hpm := idxO_inv hm2
              have hmp : m < p.length := (List.getElem?_eq_some_iff.1 hpm).1
              have hgz : getZ p (m : Int) c.kind = (c, 0) := by
                rw [getZ_at c.kind hmp]
                have : p[m] = c := (List.getElem?_eq_some_iff.1 hpm).2
                rw [this, if_pos rfl]
              have haz := addZ_has hr hm2
              have hpx := hpv.below hbx
              have HG := fun W (h : CView W (.slice pao p.length pcap) p) => D.hidIt (get_any _ p (m : Int) c.kind W h)
              rw [hgz] at HG
              have HAd := fun W (h : CView W (.slice pao p.length pcap) p) => D.hidIt (add_any _ p c W h hokd (by omega))
              rw [haz] at HAd
              clear hr hga hfit hgz haz hpm hm1 hm2
              unfold CD.val at HG HAd
              simp only at HG HAd
              have hm0 : ¬ (m : Int) < 0 := by omega
              have hpd : CView wr.drew (.slice pao p.length pcap) p := hpx.drewN 1
              have hd1 : CAt wr.drew g (off + j * 5) c := hd.block rfl
              obtain ⟨d0, d1, d2, d3, d4⟩ := id hd
              obtain ⟨f0, f1, f2, f3, f4⟩ := id hd1
              have hpe : ∀ o, CView (wr.alloc o).drew (.slice pao p.length pcap) p := fun o => (hpx.below ((Below.refl _ wr).alloc (Nat.le_refl _) o)).drewN 1
              have hde : ∀ o, CAt (wr.alloc o).drew g (off + j * 5) c := fun o => (hd.below ((Below.refl _ wr).alloc (Nat.le_refl _) o)).block rfl
              have cae : ∀ o, (wr.alloc o).drew.cell? ⟨ga, j, none⟩ = some (.int .i64 (m : Int)) := fun o => (by have := cell_later ((Below.refl _ wr).alloc (Nat.le_refl _) o) ca; exact this)
              have h0e := fun o => (hde o).c0
              go_upto_region 19 with fail
              go_cut [10, 11] from 67 to 130 (fun s10 s11 wx => ∃ gb, s10 = .pointer (some ⟨gb, 0, none⟩) ∧ s11 = .int .i64 0 ∧ CAt wx gb 0 c ∧ Below wr.heap.size wr wx)
              case first =>
                go_region_with (first
                  | (go_at_call 13; refine (HG _ hpd).out.mono ?_; rintro e w2 ⟨rfl, b2⟩)
                  | (go_at_call 13; refine (HG _ (hpe _)).out.mono ?_; rintro e w2 ⟨rfl, b2⟩; have hz2 := (b2.block wr.heap.size (by show wr.heap.size < (wr.alloc _).heap.size; simp)).trans (heap_alloc_new wr (.cells #[.int .i64 0, .int .i32 0, .string ⟨#[]⟩, .string ⟨#[]⟩, .string ⟨#[]⟩] 30)); have z0 := cell_of_row w2 wr.heap.size 0 _ 30 (0, 0) hz2; have z1 := cell_of_row w2 wr.heap.size 1 _ 30 (0, 0) hz2; have z2 := cell_of_row w2 wr.heap.size 2 _ 30 (0, 0) hz2; have z3 := cell_of_row w2 wr.heap.size 3 _ 30 (0, 0) hz2; have z4 := cell_of_row w2 wr.heap.size 4 _ 30 (0, 0) hz2; simp at z0 z1 z2 z3 z4; have fz := fun i => frozen_row hz2 i))
                all_goals
                  go_wp2_with fail
                  go_meet
                  first
                    | exact ⟨wr.heap.size, rfl, rfl, (put5 hz2).1, ((Below.drewed ((Below.refl _ wr).alloc (Nat.le_refl _) _)).trans (b2.mono (by show wr.heap.size ≤ (wr.alloc _).heap.size; simp))).trans (put5 hz2).2⟩
                    | exact ⟨w2.heap.size, rfl, rfl, box_at w2 c, (Below.drewed (Below.refl _ wr)).trans (b2.alloc b2.size _)⟩
              case rest =>
                obtain ⟨gb, rfl, rfl, hcb, hbc⟩ := hcut
                clear hpe hde cae h0e hpd hd1 f0 f1 f2 f3 f4 d0 d1 d2 d3 d4
                have hdc := hd.below hbc
                have cac := cell_later hbc ca
                have scc := hbc.size
                obtain ⟨d0, d1, d2, d3, d4⟩ := id hdc
                go_wp2_with fail
                refine (HAd _ (hpx.below hbc)).out.mono ?_
                rintro e w3 ⟨b3, v3, rfl, o3⟩
                obtain ⟨ao3, cap3, rfl⟩ := cown_slice o3
                have sc3 := b3.size
                have hd3 := hdc.below b3
                have hcb3 := hcb.below b3
                have ca3 := cell_later b3 cac
                clear d0 d1 d2 d3 d4 hcb hdc cac ca
                obtain ⟨d0, d1, d2, d3, d4⟩ := id hd3
                obtain ⟨f0, f1, f2, f3, f4⟩ := id hcb3
                go_wp2
                go_quiet (fail)
                go_wp2
                exact ⟨⟨j + 1, by go_num, by omega, below_drewN (hbx.trans ((hbc.mono sx).trans (b3.mono (by omega)))) _⟩, by simp [intOf]; omega⟩
          · have hjk' : ¬ (j : Int) < (k : Int) := by omega
            go_wp2_with fail
            refine (known_any wr (hT.below BX)).mono ?_
            rintro e w2 ⟨rfl, b2⟩
            go_wp2
            go_ret
            exact ⟨rfl, BX.trans (b2.mono BX.size)⟩
end Go.Proofs.YtjnaiekdbigikaaDoor
