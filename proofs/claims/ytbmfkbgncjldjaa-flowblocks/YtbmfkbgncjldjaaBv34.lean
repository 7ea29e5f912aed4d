/- Texts FBr. -/
import Derived.Test.YtbmfkbgncjldjaaBv33
import Derived.Test.YtbmfkbgncjldjaaBv32
import Derived.Deep.RegionHeld3
namespace Go.Proofs.Ytbmfkbgncjldjaa
open Go.RowKit

theorem ris_len : ∀ (d : List Int) (lo n : Int), Ris d → (∀ m ∈ d, lo ≤ m ∧ m < n) → (d.length : Int) ≤ max 0 (n - lo)
  | [], lo, n, _, _ => by simp; omega
  | y :: r, lo, n, h, hb => by
    obtain ⟨h1, h2⟩ := List.pairwise_cons.1 h
    have hy := hb y (by simp)
    have := ris_len r (y + 1) n h2 (fun m hm => ⟨by have := h1 m hm; omega, (hb m (List.mem_cons_of_mem _ hm)).2⟩)
    simp only [List.length_cons]
    omega
def LdX (l : List IN) (d : List Int) : Prop := ∃ b, LdI l d b
theorem LdX.len {l : List IN} {d : List Int} (h : LdX l d) : d.length ≤ l.length := by
  obtain ⟨b, h⟩ := h
  have := ris_len d 0 l.length h.ris h.pos
  omega
theorem LdX.lay {l : List IN} {d : List Int} (h : LdX l d) (n : Int) : LdX l (layS l d n) := by
  obtain ⟨b, h⟩ := h
  exact ⟨_, h.lay n⟩
theorem LdX.nil (l : List IN) : LdX l [] := ⟨List.replicate l.length false, by simp, List.Pairwise.nil, fun m hm => by simp at hm, fun k => by rw [List.getElem?_replicate]; split <;> simp⟩
theorem rlay2_any (B : Nat) (v u : Value) (l : List IN) (d : List Int) (n : Int) (w : World) (hv : NOwn w B v d) (hx : LdX l d) (hu : IView w u l) (hl : l.length ≤ 1000000) (hB : B ≤ w.heap.size) :
    Calls Try.prog 55 #[v, u, .int .i64 n] w fun e w' => ∃ v', e = .returned v' ∧ NOwn w' B v' (layS l d n) ∧ LdX l (layS l d n) ∧ Below w.heap.size w w' :=
  (rlay_any B v u l d n w hv hu (by have := hx.len; omega) hB).mono fun _ _ ⟨v', h1, h2, h3⟩ => ⟨v', h1, h2, hx.lay n, h3⟩
theorem NOwn.kst {w w' : World} {B : Nat} {u : Value} {l : List Int} (h : NOwn w B u l) (hk : ∀ (k : Nat) (cs : Array Value), w.heap[k]? = some (.cells cs 3 (0, 0)) → w'.heap[k]? = some (.cells cs 3 (0, 0))) : NOwn w' B u l := by
  refine ⟨h.1, ?_⟩
  rcases h.2 with x | ⟨g, cap, cur, rfl, hB, hg, r⟩
  · exact .inl x
  · exact .inr ⟨g, cap, cur, rfl, hB, hk g cur hg, r⟩
def rrow (p : (Nat × Nat) × Value) : List Value := [.int .i64 (p.1.1 : Int), .int .i64 (p.1.2 : Int), p.2]
theorem Try.infoRK : (Try.prog.info? 93).map (fun i => (i.zero, i.size, i.bytes)) = some (some (.agg #[.int .i64 0, .int .i64 0, .slice none 0 0]), 3, 40) := by kernel_rfl
theorem wpList_rkappend {w : World} {ops : Array Oper} {rest : List Oper} {o : Oper} {a : Act} {Q : Exit → Act → World → Prop} (hgd : o.guard = none) (s x : Operand)
    (ho : o.op = .call { callee := .builtin .append, args := #[s, x], argTypes := #[48, 48] })
    (B : Nat) (v : Value) (L : List ((Nat × Nat) × Value)) (f t : Nat) (so : Option Addr) (sn sc : Nat) (hown : w.ownsRow B 93 3 v L.length (L.flatMap rrow)) (hs : a.eval s = v) (hx : a.eval x = .slice (some ⟨w.heap.size, 0, none⟩) 1 1)
    (hlen : L.length ≤ 1000000000000) (hB : B ≤ w.heap.size)
    (h : ∀ ao' cap' w', w'.ownsRow B 93 3 (.slice ao' (L.length + 1) cap') (L ++ [((f, t), Value.slice so sn sc)]).length ((L ++ [((f, t), Value.slice so sn sc)]).flatMap rrow) → Step v (w.alloc (.cells #[.int .i64 (f : Int), .int .i64 (t : Int), .slice so sn sc] 93)) (.slice ao' (L.length + 1) cap') w' → wpList Try.prog ops Q rest (a.put o.dst (.slice ao' (L.length + 1) cap')) w') :
    wpList Try.prog ops Q (o :: rest) a (w.alloc (.cells #[.int .i64 (f : Int), .int .i64 (t : Int), .slice so sn sc] 93)) := by
  obtain ⟨i0, hi, hz0, hz1, hz2⟩ := info_parts Try.infoRK
  refine wpList_plain hgd fun K hK => ?_
  have hown' := own_below hown (below_alloc w (.cells #[.int .i64 (f : Int), .int .i64 (t : Int), .slice so sn sc] 93))
  obtain ⟨v', w', hr, h2, h3, _, h4⟩ := run_append_own_at (P := Try.prog) (w.alloc (.cells #[.int .i64 (f : Int), .int .i64 (t : Int), .slice so sn sc] 93)) B 48 o.type 93 i0 _ 3 40 Try.underlying48 hi hz0 hz1 hz2 rfl (by decide) v L.length (L.flatMap rrow) hown' ⟨w.heap.size, 0, none⟩ 1 1 (rrow ((f, t), Value.slice so sn sc)) rfl
    (fun j u hj => by
      have e : (⟨w.heap.size, 0, none⟩ : Addr).add j = ⟨w.heap.size, j, none⟩ := by unfold Addr.add; split <;> simp_all
      rw [e]
      exact cell_row (heap_alloc_new w _) j (by simpa [rrow] using hj)) (fun u hu => by simp [rrow] at hu; rcases hu with rfl | rfl | rfl <;> rfl) (by unfold maxLen; omega) (by omega) (by simp; omega)
  unfold Oper.wp execOp
  simp only [ho, resolve, invoke, builtin, Sem.run_bind, Sem.run_pure, Result.andThen_ok, List.map_toArray, List.map_cons, List.map_nil, hs, hx, hr]
  obtain ⟨ao', cap', rfl⟩ := own_slice h2
  refine hK _ _ (h ao' cap' w' ?_ (Step.of_at h3 h4))
  rw [List.flatMap_append, List.length_append]
  simpa using h2
theorem pv_of {w : World} {B : Nat} {v : Value} {L : List ((Nat × Nat) × Value)} {BK : List (Nat × Nat)} {nx : Nat × Nat → List Int} (h : w.ownsRow B 93 3 v L.length (L.flatMap rrow)) (hm : L.map Prod.fst = BK) (hl : BK.length ≤ 1000000000000) (ho : ∀ p ∈ L, NOwn w B p.2 (nx p.1)) : PV w v BK nx := by
  have hlen : L.length = BK.length := by rw [← hm, List.length_map]
  obtain ⟨ao, cap, rfl⟩ := own_slice h
  refine ⟨ao, cap, by rw [hlen], hl, fun j x hj => ?_⟩
  rw [← hm, List.getElem?_map] at hj
  obtain ⟨p, hp, rfl⟩ := Option.map_eq_some_iff.1 hj
  rcases h.2 with ⟨e, h0⟩ | ⟨g, cap', cur, e, hB, hg, _⟩
  · rw [List.length_eq_zero_iff.1 h0] at hp; simp at hp
  · cases e
    have hc : ∀ (i : Nat) (u : Value), i < 3 → (rrow p)[i]? = some u → w.cell? ⟨g, 0 + j * 3 + i, none⟩ = some u := fun i u hi hu => by
      have := h.cells (g := g) rfl (j * 3 + i) u (by rw [r5_get rrow 3 (fun _ => rfl) L j p i hp hi]; exact hu)
      have e : (⟨g, 0, none⟩ : Addr).add (j * 3 + i) = ⟨g, 0 + j * 3 + i, none⟩ := by unfold Addr.add; split <;> simp_all
      rw [e] at this
      exact this
    exact ⟨g, 0, p.2, rfl, hc 0 _ (by decide) rfl, hc 1 _ (by decide) rfl, hc 2 _ (by decide) rfl, (ho p (List.mem_of_getElem? hp)).view⟩
set_option maxRecDepth 8000 in
set_option maxHeartbeats 8000000 in
theorem rblocks_any (v u : Value) (l : List IN) (h : List HN) (w : World) (hv : IView w v l) (hu : HView w u h) (hlen : l.length ≤ 1000000) :
    Calls Try.prog 23 #[v, u] w fun e w' => ∃ vb, e = .returned vb ∧ PV w' vb (bks l.length (rleadZ l h)) (fun x => rnx (rleadZ l h) (nextZ l ((x.2 : Int) - 1))) ∧ Below w.heap.size w w' := by
  have HV := hidIt hv
  have HU := hidIt hu
  have GN := hidIt (fun (n : Int) W (hb : Below w.heap.size w W) => rnext_any v l n W (hv.below hb))
  have GF := hidIt (fun (p : Int) W (hb : Below w.heap.size w W) => rfind_any v l p W (hv.below hb))
  have GL := hidIt (fun (vd : Value) (d : List Int) (n : Int) W (hb : Below w.heap.size w W) (hd : NOwn W w.heap.size vd d) (hx : LdX l d) => rlay2_any w.heap.size vd v l d n W hd hx (hv.below hb) hlen hb.size)
  obtain ⟨ao, cap, rfl, hc, hm, _⟩ := hv
  obtain ⟨ao2, cap2, rfl, hc2, hm2, _⟩ := hu
  unfold maxLen at hm hm2
  have HL1 : Hid (rlead2 l h (rlead1 l 0 (l.drop 0) (layS l [] 0)) = rleadZ l h) := rfl
  generalize rleadZ l h = D at *
  have HO := hidIt (NOwn.nil w w.heap.size)
  have HX := hidIt (LdX.nil l)
  have HB := hidIt (Below.refl w.heap.size w)
  go_enter Try.func23, Try.ntmps23
  go_upto_region 3 with (go_at_call 55; refine (GL.out _ _ _ _ HB.out HO.out HX.out).mono ?_; rintro e w1 ⟨v1, rfl, ho1, hx1, hb1⟩; have HB2 := hidIt (HB.out.trans (hb1.mono HB.out.size)); have HO2 := hidIt ho1; have HX2 := hidIt hx1; clear HB HO HX hb1 ho1 hx1; have HB := HB2; have HO := HO2; have HX := HX2; clear HB2 HO2 HX2)
  go_wp2_with fail
  go_loopw [5, 6] (fun vd i wr => ∃ (k : Nat) (d : List Int), k ≤ l.length ∧ i = .int .i64 (k : Int) ∧ NOwn wr w.heap.size vd d ∧ LdX l d ∧ Below w.heap.size w wr ∧ rlead2 l h (rlead1 l k (l.drop k) d) = D) (fun _ i _ => l.length - (intOf i).toNat)
  case atStart => exact ⟨0, _, Nat.zero_le _, rfl, HO.out, HX.out, HB.out, HL1.out⟩
  case round =>
    clear HO HX HB HL1
    obtain ⟨k, d, hk, rfl, ho, hx, hb, he⟩ := hrel
    have HO := hidIt ho
    have HX := hidIt hx
    have HB := hidIt hb
    have HE := hidIt he
    have hz := hb.size
    obtain ⟨aod, capd, rfl⟩ := own_slice ho
    clear ho hx hb he
    by_cases hlt : k < l.length
    · have hlt' : (k : Int) < (l.length : Int) := by omega
      obtain ⟨x, hx⟩ : ∃ x, l[k]? = some x := ⟨l[k], List.getElem?_eq_getElem hlt⟩
      have HR := hidIt (fun W hb => (HV.out.below (wr := W) hb).row hx)
      rw [drop_at hx, rlead1_cons] at HE
      have GB := hidIt (fun W => rbranch x.op W)
      have GE := hidIt (fun W => rends x.op W)
      have GF1 := hidIt (fun W hb => GF.out x.a W hb)
      obtain ⟨g, off, rfl, c0, c1, c2, c3⟩ := HR.out wr HB.out
      have HC : Hid (∀ W, Below w.heap.size w W → W.cell? ⟨g, off + k * 4 + 1, none⟩ = some (.int .i64 x.op)) := fun W hb => by obtain ⟨g', off', e, c0, c1, c2, c3⟩ := HR.out W hb; cases e; exact c1
      clear hx HR c0 c3
      by_cases h6 : kd x.op = 6
      · rw [decide_eq_true h6] at GB HE
        simp only [if_true] at HE
        generalize findZ l x.a = F at *
        go_wp2_with (first | (go_at_call 43; refine (GB.out _).mono ?_; rintro e w' ⟨rfl, hww⟩; cases hww) | (go_at_call 19; refine (GF1.out _ HB.out).mono ?_; rintro e w' ⟨rfl, hww⟩; cases hww) | (go_at_call 55; refine (GL.out _ _ _ _ HB.out HO.out HX.out).mono ?_; clear c1 c2 hz; rintro e w1 ⟨v1, rfl, ho1, hx1, hb1⟩; have HB2 := hidIt (HB.out.trans (hb1.mono HB.out.size)); have HO2 := hidIt ho1; have HX2 := hidIt hx1; clear HB HO HX hb1 ho1 hx1; have HB := HB2; have HO := HO2; have HX := HX2; clear HB2 HO2 HX2; have hz := HB.out.size; have c1 := HC.out _ HB.out; have c2 := True.intro))
        exact ⟨⟨k + 1, _, by omega, by go_num, HO.out, HX.out, HB.out, HE.out⟩, by simp [intOf]; omega⟩
      · rw [decide_eq_false h6] at GB HE
        simp only [Bool.false_eq_true, if_false] at HE
        cases he : endsB x.op with
        | true =>
          rw [he] at GE HE
          simp only [if_true] at HE
          go_wp2_with (first | (go_at_call 43; refine (GB.out _).mono ?_; rintro e w' ⟨rfl, hww⟩; cases hww) | (go_at_call 44; refine (GE.out _).mono ?_; rintro e w' ⟨rfl, hww⟩; cases hww) | (go_at_call 55; refine (GL.out _ _ _ _ HB.out HO.out HX.out).mono ?_; clear c1 c2 hz; rintro e w1 ⟨v1, rfl, ho1, hx1, hb1⟩; have HB2 := hidIt (HB.out.trans (hb1.mono HB.out.size)); have HO2 := hidIt ho1; have HX2 := hidIt hx1; clear HB HO HX hb1 ho1 hx1; have HB := HB2; have HO := HO2; have HX := HX2; clear HB2 HO2 HX2; have hz := HB.out.size))
          exact ⟨⟨k + 1, _, by omega, by go_num, HO.out, HX.out, HB.out, HE.out⟩, by simp [intOf]; omega⟩
        | false =>
          rw [he] at GE HE
          simp only [Bool.false_eq_true, if_false] at HE
          go_wp2_with (first | (go_at_call 43; refine (GB.out _).mono ?_; rintro e w' ⟨rfl, hww⟩; cases hww) | (go_at_call 44; refine (GE.out _).mono ?_; rintro e w' ⟨rfl, hww⟩; cases hww))
          exact ⟨⟨k + 1, _, by omega, by go_num, HO.out, HX.out, HB.out, HE.out⟩, by simp [intOf]; omega⟩
    · have hlt' : ¬ (k : Int) < (l.length : Int) := by omega
      obtain rfl : k = l.length := by omega
      rw [List.drop_length] at HE
      have HE2 : Hid (rlead2 l (h.drop 0) d = D) := HE.out
      clear HE HV hlt
      go_wp2_with fail
      go_loopw [5, 7] (fun vd i wr => ∃ (k : Nat) (d : List Int), k ≤ h.length ∧ i = .int .i64 (k : Int) ∧ NOwn wr w.heap.size vd d ∧ LdX l d ∧ Below w.heap.size w wr ∧ rlead2 l (h.drop k) d = D) (fun _ i _ => h.length - (intOf i).toNat)
      case atStart => exact ⟨0, d, Nat.zero_le _, rfl, HO.out, HX.out, HB.out, HE2.out⟩
      case round =>
        clear HO HX HB HE2 hz hlt' hk
        obtain ⟨k, d, hk, rfl, ho, hx, hb, he⟩ := hrel
        have HO := hidIt ho
        have HX := hidIt hx
        have HB := hidIt hb
        have HE := hidIt he
        have hz := hb.size
        obtain ⟨aod, capd, rfl⟩ := own_slice ho
        clear ho hx hb he
        by_cases hlt : k < h.length
        · have hlt' : (k : Int) < (h.length : Int) := by omega
          obtain ⟨y, hy⟩ : ∃ y, h[k]? = some y := ⟨h[k], List.getElem?_eq_getElem hlt⟩
          have HR := hidIt (fun W hb => (HU.out.below (wr := W) hb).row hy)
          rw [drop_at hy, rlead2_cons] at HE
          obtain ⟨g, off, rfl, c0, c1, c2, c3⟩ := HR.out wr HB.out
          have ST : Hid (∀ W, Below w.heap.size w W → W.cell? ⟨g, off + k * 4, none⟩ = some (.int .i64 y.f) ∧ W.cell? ⟨g, off + k * 4 + 1, none⟩ = some (.int .i64 y.t) ∧ W.cell? ⟨g, off + k * 4 + 2, none⟩ = some (.int .i64 y.a)) := fun W hb => by obtain ⟨g', off', e, c0, c1, c2, c3⟩ := HR.out W hb; cases e; exact ⟨c0, c1, c2⟩
          have S0 := hidIt (ST.out wr HB.out)
          clear hy HR c0 c1 c2 c3
          have HBd : Hid (Below w.heap.size w wr.drew) := below_drewN HB.out 1
          have HOd : Hid (NOwn wr.drew w.heap.size (.slice aod d.length capd) d) := HO.out.drewN 1
          clear HB HO
          have HB := HBd
          have HO := HOd
          clear HBd HOd
          go_wp2_with fail
          go_region_held3 (fun W => W.cell? ⟨g, off + k * 4, none⟩ = some (.int .i64 y.f) ∧ W.cell? ⟨g, off + k * 4 + 1, none⟩ = some (.int .i64 y.t) ∧ W.cell? ⟨g, off + k * 4 + 2, none⟩ = some (.int .i64 y.a)) (first | exact S0.out | exact ST.out _ HB.out)
            (first
              | (go_at_call 19; refine (GF.out _ _ HB.out).mono ?_; rintro e w' ⟨rfl, hww⟩; cases hww)
              | (go_at_call 55; refine (GL.out _ _ _ _ HB.out HO.out HX.out).mono ?_; clear hz; rintro e w1 ⟨v1, rfl, ho1, hx1, hb1⟩; have HB2 := hidIt (HB.out.trans (hb1.mono HB.out.size)); have HO2 := hidIt ho1; have HX2 := hidIt hx1; clear HB HO HX hb1 ho1 hx1; have HB := HB2; have HO := HO2; have HX := HX2; clear HB2 HO2 HX2; have hz := HB.out.size))
          go_wp2
          exact ⟨⟨k + 1, _, by omega, by go_num, HO.out, HX.out, HB.out, HE.out⟩, by simp [intOf]; omega⟩
        · have hlt' : ¬ (k : Int) < (h.length : Int) := by omega
          obtain rfl : k = h.length := by omega
          rw [List.drop_length] at HE
          obtain rfl : d = D := HE.out
          clear HE HU hlt GL GF
          have hDl := HX.out.len
          obtain ⟨bb, hLD⟩ := HX.out
          have HPos := hidIt hLD.pos
          clear hLD HX
          have HL0 : Hid (wr.ownsRow w.heap.size 93 3 (.slice none 0 0) ([] : List ((Nat × Nat) × Value)).length (([] : List ((Nat × Nat) × Value)).flatMap rrow)) := World.ownsRow_nil _ _ _ _
          have HBKl := hidIt (bks_len l.length d)
          go_wp2_with fail
          go_loopw [8, 9, 10, 11, 12, 13] (fun vo i _ _ _ _ wr => ∃ (k : Nat) (L : List ((Nat × Nat) × Value)), i = .int .i64 (k : Int) ∧ k ≤ d.length ∧ L.length = k ∧ L.map Prod.fst = (bks l.length d).take k ∧ wr.ownsRow w.heap.size 93 3 vo L.length (L.flatMap rrow) ∧ (∀ p ∈ L, NOwn wr w.heap.size p.2 (rnx d (nextZ l ((p.1.2 : Int) - 1)))) ∧ NOwn wr w.heap.size (.slice aod d.length capd) d ∧ Below w.heap.size w wr) (fun _ i _ _ _ _ _ => d.length - (intOf i).toNat)
          case atStart => exact ⟨0, [], rfl, Nat.zero_le _, rfl, rfl, HL0.out, fun p hp => by simp at hp, HO.out, HB.out⟩
          case round =>
            rename World => w0
            clear HO HB HL0 hz hlt' hk
            obtain ⟨k, L, rfl, hk, hLk, hLm, hL, hLo, ho, hb⟩ := hrel
            have HL := hidIt hL
            have HLm := hidIt hLm
            have HLo := hidIt hLo
            have HO := hidIt ho
            have HB := hidIt hb
            have hz := hb.size
            have HLk := hidIt hLk
            obtain ⟨aob, capb, rfl⟩ := own_slice hL
            clear hL hLm hLo ho hb hLk
            by_cases hlt : k < d.length
            · have hlt' : (k : Int) < (d.length : Int) := by omega
              obtain ⟨f0, hf0⟩ : ∃ f0, d[k]? = some f0 := ⟨d[k], List.getElem?_eq_getElem hlt⟩
              have hfp := HPos.out f0 (List.mem_of_getElem? hf0)
              obtain ⟨f, rfl⟩ := Int.eq_ofNat_of_zero_le hfp.1
              have HTk := hidIt (bks_take l.length d k _ hf0)
              obtain ⟨g, off, rfl, c0⟩ := HO.out.view.row hf0
              obtain ⟨t, ht, htv⟩ : ∃ t : Nat, (bto l.length d k).toNat = t ∧ ((k + 1 < d.length ∧ d[k + 1]? = some (t : Int)) ∨ (¬ k + 1 < d.length ∧ t = l.length)) := by
                by_cases h1 : k + 1 < d.length
                · obtain ⟨t0, ht0⟩ : ∃ t0, d[k + 1]? = some t0 := ⟨d[k + 1], List.getElem?_eq_getElem h1⟩
                  have := HPos.out t0 (List.mem_of_getElem? ht0)
                  obtain ⟨t, rfl⟩ := Int.eq_ofNat_of_zero_le this.1
                  exact ⟨t, by unfold bto; rw [ht0]; simp, .inl ⟨h1, ht0⟩⟩
                · exact ⟨l.length, by unfold bto; rw [List.getElem?_eq_none (by omega)]; simp, .inr ⟨h1, rfl⟩⟩
              rw [ht] at HTk
              clear ht hf0 hfp
              have ht64 : t ≤ l.length := by
                rcases htv with ⟨_, h2⟩ | ⟨_, rfl⟩
                · have := HPos.out _ (List.mem_of_getElem? h2); omega
                · exact Nat.le_refl _
              have HA1 := hidIt (below_alloc w0 (.cells #[.int .i64 (f : Int), .int .i64 (l.length : Int), .slice none 0 0] 93))
              rcases htv with ⟨h1, h2⟩ | ⟨h1, h2⟩
              case' inl =>
                have h1' : (k : Int) + 1 < (d.length : Int) := by omega
                have hX1 := heap_alloc_new w0 (.cells #[.int .i64 (f : Int), .int .i64 (l.length : Int), .slice none 0 0] 93)
                have ef := frozen_row hX1
                have c1 : (w0.alloc (.cells #[.int .i64 (f : Int), .int .i64 (l.length : Int), .slice none 0 0] 93)).cell? ⟨g, off + (k + 1), none⟩ = some (.int .i64 (t : Int)) := by
                  obtain ⟨g', off', e, cc⟩ := (HO.out.view.below HA1.out).row h2
                  cases e
                  exact cc
                clear h2 hX1
                go_upto_region 21 with (fail)
                have HX2 := hidIt (heap_alloc_new w0 (.cells #[.int .i64 (f : Int), .int .i64 (t : Int), .slice none 0 0] 93))
                have HBW := hidIt (below_alloc w0 (.cells #[.int .i64 (f : Int), .int .i64 (t : Int), .slice none 0 0] 93))
                clear c0 c1 ef HA1 h1 h1'
                generalize w0.alloc (.cells #[.int .i64 (f : Int), .int .i64 (t : Int), .slice none 0 0] 93) = W2 at *
              case' inr =>
                have h1' : ¬ (k : Int) + 1 < (d.length : Int) := by omega
                have HX2 : Hid ((w0.alloc (.cells #[.int .i64 (f : Int), .int .i64 (l.length : Int), .slice none 0 0] 93)).heap[w0.heap.size]? = some (.cells #[.int .i64 (f : Int), .int .i64 (t : Int), .slice none 0 0] 93 (0, 0))) := by
                  show _ = _
                  rw [h2]
                  exact heap_alloc_new _ _
                have HBW := HA1
                clear h2
                go_upto_region 21 with (fail)
                clear c0 HA1 h1 h1'
                generalize w0.alloc (.cells #[.int .i64 (f : Int), .int .i64 (l.length : Int), .slice none 0 0] 93) = W2 at *
              all_goals
                have HB2 := hidIt (HB.out.trans (HBW.out.mono HB.out.size))
                have hzW : w0.heap.size < W2.heap.size := (Array.getElem?_eq_some_iff.1 HX2.out).1
                have e1 := cell_row HX2.out 1 rfl
                go_upto_region 22 with (go_at_call 17; refine (GN.out _ _ HB2.out).mono ?_; clear e1; rintro e W3 ⟨vn, rfl, hn, hb3⟩; have HNX := hidIt hn; have HB3 := hidIt hb3; clear hn hb3)
                have HX3 : Hid (W3.heap[w0.heap.size]? = some (.cells #[.int .i64 (f : Int), .int .i64 (t : Int), .slice none 0 0] 93 (0, 0))) := (HB3.out.block _ hzW).trans HX2.out
                have HBr : Hid (Below w0.heap.size w0 W3) := HBW.out.trans (HB3.out.mono (Nat.le_of_lt hzW))
                have HNX2 : Hid (NOwn W3 (w0.heap.size + 1) vn (nextZ l ((t : Int) - 1))) := HNX.out.wk hzW
                have hNl := nextZ_len l ((t : Int) - 1)
                have HTgt : Hid (∀ q, q = nextZ l ((t : Int) - 1) → rnx d q = rnx d (nextZ l ((t : Int) - 1))) := fun q e => by rw [e]
                obtain ⟨NXL, hNXL⟩ : ∃ NXL, NXL = nextZ l ((t : Int) - 1) := ⟨_, rfl⟩
                have HNXL := hidIt hNXL
                rw [← hNXL] at HNX2 hNl
                obtain ⟨aon, capn, rfl⟩ := own_slice HNX2.out
                clear HNX HB2 HX2 HBW HB3 HTgt hNXL
                have HV0 : Hid (NOwn W3 (w0.heap.size + 1) (.slice none 0 0) []) := NOwn.nil _ _
                go_wp2_with fail
                go_loopw [12, 13] (fun kk _ wx => ∃ (q : Nat) (acc : List Int) (so : Option Addr) (sc : Nat), kk = .int .i64 (q : Int) ∧ q ≤ NXL.length ∧ acc.length ≤ q * 1000000 ∧ wx.heap[w0.heap.size]? = some (.cells #[.int .i64 (f : Int), .int .i64 (t : Int), .slice so acc.length sc] 93 (0, 0)) ∧ NOwn wx (w0.heap.size + 1) (.slice so acc.length sc) acc ∧ NOwn wx (w0.heap.size + 1) (.slice aon NXL.length capn) NXL ∧ (∀ i, (Value.slice aon NXL.length capn).ownBlock = some i → (Value.slice so acc.length sc).ownBlock ≠ some i) ∧ Below w0.heap.size w0 wx ∧ acc = rnx d (NXL.take q)) (fun kk _ _ => NXL.length - (intOf kk).toNat)
                case atStart => exact ⟨0, [], none, 0, rfl, Nat.zero_le _, Nat.zero_le _, HX3.out, HV0.out, HNX2.out, (fun i _ h => by cases h), HBr.out, rfl⟩
                case round =>
                  clear HX3 HV0 HNX2 HBr hzW
                  obtain ⟨q, acc, so, sc, rfl, hq, hacc, hX, hA, hN, hap, hbr, hE⟩ := hrel
                  have HX := hidIt hX
                  have HA := hidIt hA
                  have HN := hidIt hN
                  have HP := hidIt hap
                  have HBr := hidIt hbr
                  have HE := hidIt hE
                  have hzr := hbr.size
                  clear hX hA hN hap hbr hE
                  by_cases hql : q < NXL.length
                  · have hql' : (q : Int) < (NXL.length : Int) := by omega
                    obtain ⟨m, hm⟩ : ∃ m, NXL[q]? = some m := ⟨NXL[q], List.getElem?_eq_getElem hql⟩
                    have HM := hidIt hm
                    have HT : Hid (acc ++ fnd m (d.drop 0) 0 = rnx d (NXL.take (q + 1))) := by
                      show _ = _
                      rw [List.take_add_one, hm, HE.out]
                      exact (rnx_snoc d _ m).symm
                    clear hm HE
                    obtain ⟨TG, hTG⟩ : ∃ TG, TG = rnx d (NXL.take (q + 1)) := ⟨_, rfl⟩
                    rw [← hTG] at HT
                    have HTG := hidIt hTG
                    clear hTG
                    go_wp2_with fail
                    go_loopw [13] (fun jj wx => ∃ (j : Nat) (acc : List Int) (so : Option Addr) (sc : Nat), jj = .int .i64 (j : Int) ∧ j ≤ d.length ∧ acc.length ≤ q * 1000000 + j ∧ wx.heap[w0.heap.size]? = some (.cells #[.int .i64 (f : Int), .int .i64 (t : Int), .slice so acc.length sc] 93 (0, 0)) ∧ NOwn wx (w0.heap.size + 1) (.slice so acc.length sc) acc ∧ NOwn wx (w0.heap.size + 1) (.slice aon NXL.length capn) NXL ∧ (∀ i, (Value.slice aon NXL.length capn).ownBlock = some i → (Value.slice so acc.length sc).ownBlock ≠ some i) ∧ Below w0.heap.size w0 wx ∧ acc ++ fnd m (d.drop j) j = TG) (fun jj _ => d.length - (intOf jj).toNat)
                    case atStart => exact ⟨0, acc, so, sc, rfl, Nat.zero_le _, Nat.le_trans hacc (Nat.le_add_right _ _), HX.out, HA.out, HN.out, HP.out, HBr.out, HT.out⟩
                    case round =>
                      clear HX HA HN HP HBr HT hzr hacc
                      obtain ⟨j, acc, so, sc, rfl, hj, hacc, hX, hA, hN, hap, hbr, hE⟩ := hrel
                      have HX := hidIt hX
                      have HA := hidIt hA
                      have HN := hidIt hN
                      have HP := hidIt hap
                      have HBr := hidIt hbr
                      have HE := hidIt hE
                      have hzr := hbr.size
                      clear hX hA hN hap hbr hE
                      by_cases hjl : j < d.length
                      · have hjl' : (j : Int) < (d.length : Int) := by omega
                        obtain ⟨y, hy⟩ : ∃ y, d[j]? = some y := ⟨d[j], List.getElem?_eq_getElem hjl⟩
                        obtain ⟨g1, off1, e1, c1⟩ := (HO.out.view.below HBr.out).row hy
                        cases e1
                        obtain ⟨g2, off2, rfl, c2⟩ := HN.out.view.row HM.out
                        rw [drop_at hy] at HE
                        have HE2 : Hid (acc ++ ((if y = m then [(j : Int)] else []) ++ fnd m (d.drop (j + 1)) (j + 1)) = TG) := HE.out
                        clear HE hy
                        by_cases hym : y = m
                        · rw [if_pos hym] at HE2
                          have hym' : (y == m) = true := by simpa using hym
                          go_wp2_with fail
                          go_quiet (fail)
                          have HXq : Hid ((wr.drewN nq).heap[w0.heap.size]? = some (.cells #[.int .i64 (f : Int), .int .i64 (t : Int), .slice so acc.length sc] 93 (0, 0))) := HX.out
                          have HAq := hidIt (HA.out.drewN nq)
                          have HNq := hidIt (HN.out.drewN nq)
                          have HBq := hidIt (below_drewN HBr.out nq)
                          clear c1 c2 HX HA HN HBr hzr
                          generalize wr.drewN nq = W5 at *
                          have d2 := cell_row HXq.out 2 rfl
                          have df := frozen_row HXq.out
                          have hB1 : w0.heap.size + 1 ≤ W5.heap.size := Nat.succ_le_of_lt (Array.getElem?_eq_some_iff.1 HXq.out).1
                          go_wp2_with (at_builtin; refine wpList_nappend rfl _ _ rfl (w0.heap.size + 1) _ _ _ HAq.out rfl rfl (by omega) hB1 ?_; intro ao3 cap3 w3 ho3 st3; have HX3 := hidIt (step_keeps st3 HAq.out _ _ _ (by decide) HXq.out); have HP3 := hidIt (HNq.out.apart st3 HP.out); have HA3 := hidIt ho3; have HB3 := hidIt ((HBq.out.trans ((below_alloc _ _).mono HBq.out.size)).trans (st3.below (Nat.le_trans HBq.out.size (below_alloc _ _).size) (fun k hk => by have := (HAq.out.lt k hk).1; omega))); clear ho3 st3 d2 df; have d2 := cell_row HX3.out 2 rfl; have df := frozen_row HX3.out)
                          have hl : (acc ++ [(j : Int)]).length = acc.length + 1 := by simp
                          refine ⟨⟨j + 1, acc ++ [(j : Int)], ao3, cap3, by go_num, by omega, by rw [hl]; omega, ?_, ?_, own_set HP3.out.1 HX3.out (by decide), ?_, HB3.out.setCell (Nat.le_refl _) _, by have := HE2.out; simpa using this⟩, by simp [intOf]; omega⟩
                          · rw [hl, set_row HX3.out]; rfl
                          · rw [hl]; exact own_set HA3.out HX3.out (by decide)
                          · rw [hl]; exact HP3.out.2
                        · rw [if_neg hym] at HE2
                          have hym' : (y == m) = false := by simpa using hym
                          go_wp2_with fail
                          go_quiet (fail)
                          go_wp2
                          exact ⟨⟨j + 1, acc, so, sc, by go_num, by omega, by omega, HX.out, HA.out.drewN nq, HN.out.drewN nq, HP.out, below_drewN HBr.out nq, by have := HE2.out; simpa using this⟩, by simp [intOf]; omega⟩
                      · have hjl' : ¬ (j : Int) < (d.length : Int) := by omega
                        obtain rfl : j = d.length := by omega
                        rw [List.drop_length] at HE
                        go_wp2_with fail
                        exact ⟨⟨q + 1, acc, so, sc, by go_num, by omega, by omega, HX.out, HA.out, HN.out, HP.out, HBr.out, by have := HE.out; rw [← HTG.out]; simpa [fnd] using this⟩, by simp [intOf]; omega⟩
                  · have hql' : ¬ (q : Int) < (NXL.length : Int) := by omega
                    obtain rfl : q = NXL.length := by omega
                    have b0 := cell_row HX.out 0 rfl
                    have b1 := cell_row HX.out 1 rfl
                    have b2 := cell_row HX.out 2 rfl
                    have HLx := hidIt (own_below HL.out HBr.out)
                    have HBx := hidIt (HB.out.trans (HBr.out.mono HB.out.size))
                    go_wp2_with (at_builtin; refine wpList_rkappend rfl _ _ rfl w.heap.size _ L f t so acc.length sc HLx.out rfl rfl (by have := HLk.out; omega) HBx.out.size ?_; intro ao3 cap3 w3 ho3 st3; have HO3 := hidIt ho3; have ST := hidIt st3; clear ho3 st3 b0 b1 b2)
                    have hk3 : ∀ (i : Nat) (cs : Array Value), wr.heap[i]? = some (.cells cs 3 (0, 0)) → w3.heap[i]? = some (.cells cs 3 (0, 0)) := fun i cs hi => kstep ST.out HLx.out (by decide) hi
                    refine ⟨⟨k + 1, L ++ [((f, t), Value.slice so acc.length sc)], by go_num, by omega, by rw [List.length_append, HLk.out]; rfl, by rw [List.map_append, HLm.out, HTk.out]; rfl, HO3.out, fun p hp => ?_, NOwn.kst (NOwn.step HO.out HBr.out) hk3, (HBx.out.trans ((below_alloc _ _).mono HBx.out.size)).trans (ST.out.below (Nat.le_trans HBx.out.size (below_alloc _ _).size) (fun i hi => (HLx.out.lt i hi).1))⟩, by simp [intOf]; omega⟩
                    rcases List.mem_append.1 hp with hp | hp
                    · exact NOwn.kst (NOwn.step (HLo.out p hp) HBr.out) hk3
                    · simp at hp
                      subst hp
                      have he := HE.out
                      rw [List.take_length, HNXL.out] at he
                      rw [← he]
                      exact ((HA.out.wk (by omega)).kst hk3 : NOwn w3 w.heap.size _ acc)
            · have hlt' : ¬ (k : Int) < (d.length : Int) := by omega
              obtain rfl : k = d.length := by omega
              go_wp2_with fail
              go_ret
              refine ⟨_, rfl, pv_of HL.out ?_ (by rw [HBKl.out]; omega) HLo.out, HB.out⟩
              rw [HLm.out, ← HBKl.out, List.take_length]
end Go.Proofs.Ytbmfkbgncjldjaa
