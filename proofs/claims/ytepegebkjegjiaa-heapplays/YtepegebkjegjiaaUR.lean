/- Mark of the document's own heap: walked. -/
import Derived.Test.YtepegebkjegjiaaUQ
import Derived.Test.YtepegebkjegjiaaVE
namespace Go.Proofs.Ytepegebkjegjiaa.J
open Go.RowKit Go.MapKept Go.ChangeMaps
set_option linter.unusedVariables false

theorem below_drewU (w : World) (k : Nat) : Below w.heap.size w (w.drewN k) := below_drewN (Below.refl _ w) k
/-- Two lists of numbers in rows of one's own, in unlike blocks. -/
structure OL (B : Nat) (w wr : World) (ov lv : Value) (out left : List Int) : Prop where
  o : NOwn wr B ov out
  l : NOwn wr B lv left
  ap : ∀ b, ov.ownBlock = some b → lv.ownBlock ≠ some b
  below : Below B w wr
variable {B : Nat} {w wr w2 : World} {ov lv v' : Value} {out left : List Int}
theorem OL.pushL (h : OL B w wr ov lv out left) (hz : B ≤ wr.heap.size) {y : Int} (ho : NOwn w2 B v' (left ++ [y])) (st : Step lv (wr.alloc (.cells #[.int .i64 y] 3)) v' w2) : OL B w w2 ov v' out (left ++ [y]) := by
  have ba := balloc wr (.cells #[.int .i64 y] 3)
  refine ⟨own_kept h.o (fun g eg => (st.grown.block g (Nat.lt_of_lt_of_le (h.o.lt g eg).2 ba.size) (fun e => h.ap g eg e.symm)).trans (ba.block g (h.o.lt g eg).2)), ho, fun b hb hb2 => ?_, (h.below.trans (ba.mono hz)).trans (st.below (Nat.le_trans hz ba.size) (fun k hk => (h.l.lt k hk).1))⟩
  rcases st.moved with e | ⟨g, e, hg⟩
  · rw [e] at hb2; exact h.ap b hb hb2
  · rw [e] at hb2; cases hb2
    have := (h.o.lt _ hb).2
    have := ba.size
    omega
theorem OL.pushO (h : OL B w wr ov lv out left) (hz : B ≤ wr.heap.size) {y : Int} (ho : NOwn w2 B v' (out ++ [y])) (st : Step ov (wr.alloc (.cells #[.int .i64 y] 3)) v' w2) : OL B w w2 v' lv (out ++ [y]) left := by
  have ba := balloc wr (.cells #[.int .i64 y] 3)
  refine ⟨ho, own_kept h.l (fun g eg => (st.grown.block g (Nat.lt_of_lt_of_le (h.l.lt g eg).2 ba.size) (fun e => h.ap g e.symm eg)).trans (ba.block g (h.l.lt g eg).2)), fun b hb hb2 => ?_, (h.below.trans (ba.mono hz)).trans (st.below (Nat.le_trans hz ba.size) (fun k hk => (h.o.lt k hk).1))⟩
  rcases st.moved with e | ⟨g, e, hg⟩
  · rw [e] at hb; exact h.ap b hb hb2
  · rw [e] at hb; cases hb
    have := (h.l.lt _ hb2).2
    have := ba.size
    omega
theorem OL.trim {ao : Option Addr} {cap : Nat} {x : Int} (h : OL B w wr ov (.slice ao (left.length + 1) cap) out (left ++ [x])) : OL B w wr ov (.slice ao left.length cap) out left := by
  refine ⟨h.o, ?_, fun b hb hb2 => h.ap b hb (by cases ao <;> exact hb2), h.below⟩
  have ho := h.l
  unfold NOwn at ho
  rw [show (left ++ [x]).length = left.length + 1 by simp] at ho
  have ht := own_trim ho (Nat.le_succ left.length)
  rwa [show (icells (left ++ [x])).take left.length = icells left by simp [icells, List.map_append]] at ht
theorem OL.next (h : OL B w wr ov lv out left) (hb : Below wr.heap.size wr w2) (hz : B ≤ wr.heap.size) : OL B w w2 ov lv out left :=
  ⟨own_below h.o hb, own_below h.l hb, h.ap, h.below.trans (hb.mono hz)⟩
variable {n0 : Nat} {R : RB} {most : Nat} {l : List Ob} {ss : List (List Bool)} {roots : List Int}
theorem wpList_nappendR {w : World} {ops : Array Oper} {rest : List Oper} {o : Oper} {a : Act} {Q : Exit → Act → World → Prop} (hgd : o.guard = none) (s x : Operand)
    (ho : o.op = .call { callee := .builtin .append, args := #[s, x], argTypes := #[34, 34] })
    (B : Nat) (v : Value) (l : List Int) (y : Int) (hown : NOwn w B v l) (hs : a.eval s = v) (hx : a.eval x = .slice (some ⟨w.heap.size, 0, none⟩) 1 1)
    (hlen : (l.length + 1) * 8 ≤ 140737488355328) (hB : B ≤ w.heap.size)
    (h : ∀ ao' cap' w', NOwn w' B (.slice ao' (l.length + 1) cap') (l ++ [y]) → Step v (w.alloc (.cells #[.int .i64 y] 3)) (.slice ao' (l.length + 1) cap') w' → wpList Try.prog ops Q rest (a.put o.dst (.slice ao' (l.length + 1) cap')) w') :
    wpList Try.prog ops Q (o :: rest) a (w.alloc (.cells #[.int .i64 y] 3)) := by
  obtain ⟨i0, hi, hz0, hz1, hz2⟩ := info_parts Try.infoN
  refine wpList_plain hgd fun K hK => ?_
  have hown' : (w.alloc (.cells #[.int .i64 y] 3)).ownsRow B 3 1 v l.length (icells l) := own_below hown (balloc w _)
  obtain ⟨v', w', hr, h2, h3, _, h4⟩ := run_append_own_at (P := Try.prog) (w.alloc (.cells #[.int .i64 y] 3)) B 34 o.type 3 i0 (.int .i64 0) 1 8 Try.underlying34 hi hz0 hz1 hz2 rfl (by decide) v l.length (icells l) hown' ⟨w.heap.size, 0, none⟩ 1 1 [.int .i64 y] rfl
    (fun j u hj => by
      have e : (⟨w.heap.size, 0, none⟩ : Addr).add j = ⟨w.heap.size, j, none⟩ := by unfold Addr.add; split <;> simp_all
      rw [e]
      have := (Blk.new w #[.int .i64 y] 3).cell j
      rw [this]
      simpa using hj) (icells_one [y]) (by unfold maxLen; omega) (by omega) (by simp; omega)
  unfold Oper.wp execOp
  simp only [ho, resolve, invoke, builtin, Sem.run_bind, Sem.run_pure, Result.andThen_ok, List.map_toArray, List.map_cons, List.map_nil, hs, hx, hr]
  obtain ⟨ao', cap', rfl⟩ := own_slice h2
  refine hK _ _ (h ao' cap' w' ?_ ⟨h3, h4.imp id fun e => ⟨_, e, Nat.le_refl _⟩⟩)
  show w'.ownsRow B 3 1 _ (l ++ [y]).length (icells (l ++ [y]))
  rw [show icells (l ++ [y]) = icells l ++ [.int .i64 y] by simp [icells], List.length_append]
  exact h2
theorem wtL_erase (l : List Ob) {x : Int} : ∀ {b : List Int}, x ∈ b → wtL l b = lenN l x + wtL l (b.erase x)
  | [], h => by simp at h
  | y :: b, h => by
    by_cases e : y = x
    · subst e; simp [wtL]
    · have h2 : x ∈ b := by
        rcases List.mem_cons.1 h with h | h
        · exact absurd h.symm e
        · exact h
      have := wtL_erase l h2
      rw [List.erase_cons_tail (by simpa using e)]
      simp only [wtL]
      omega
theorem wtL_sub (l : List Ob) : ∀ (a b : List Int), a.Nodup → (∀ x ∈ a, x ∈ b) → wtL l a ≤ wtL l b
  | [], b, _, _ => by simp [wtL]
  | x :: a, b, hn, hs => by
    have h1 := List.nodup_cons.1 hn
    have h2 := wtL_sub l a (b.erase x) h1.2 (fun y hy => by
      have hne : y ≠ x := fun e => h1.1 (e ▸ hy)
      exact (List.mem_erase_of_ne hne).2 (hs y (List.mem_cons_of_mem _ hy)))
    have h3 := wtL_erase l (hs x List.mem_cons_self)
    simp only [wtL]
    omega
theorem wtL_begs (l : List Ob) : ∀ k, k ≤ l.length → wtL l (begs 0 (l.take k)) + 2 * k ≤ usedN (l.take k)
  | 0, _ => by simp [begs, wtL]
  | k + 1, h => by
    have hk : k < l.length := h
    have h1 := wtL_begs l k (by omega)
    have hx : l[k]? = some l[k] := List.getElem?_eq_getElem hk
    rw [begs_take_snoc hx, wtL_snoc, (usedN_take l k l[k] hx).1]
    have : lenN l ((usedN (l.take k) : Int) + 1) = l[k].f.length + 1 := by unfold lenN; rw [objZ_nth hx]
    omega
theorem Mrk.wt {ss : List (List Bool)} {l : List Ob} {roots out left : List Int} (h : Mrk ss l roots out left) : wtL l out ≤ usedN l := by
  have h1 := wtL_sub l out (begs 0 l) h.nd (fun x hx => by
    obtain ⟨o, ho⟩ := Option.isSome_iff_exists.1 (h.ob x hx)
    obtain ⟨i, h1, h2⟩ := objZ_idx ho
    have h3 := begs_at l 0 i (List.getElem?_eq_some_iff.1 h1).1
    rw [Nat.zero_add, ← h2] at h3
    exact List.mem_of_getElem? h3)
  have h2 := wtL_begs l l.length (Nat.le_refl _)
  rw [List.take_length] at h2
  omega
/-- How far the document's marking went, in memory. -/
def MkW (w : World) (ss : List (List Bool)) (l : List Ob) (roots : List Int) (ov lv : Value) (wr : World) : Prop :=
  ∃ (out left : List Int) (ao al : Option Addr) (co cl : Nat), ov = .slice ao out.length co ∧ lv = .slice al left.length cl ∧ OL w.heap.size w wr ov lv out left ∧ Mrk ss l roots out left ∧ left.length ≤ roots.length + wtL l out
theorem swap_at : ∀ (P R : List Int) (x y : Int), ((P ++ y :: x :: R).set P.length x).set (P.length + 1) y = P ++ x :: y :: R
  | [], R, x, y => rfl
  | p :: P, R, x, y => by simp
theorem swap_at' : ∀ (P R : List Int) (x y : Int), ((P ++ y :: x :: R).set (P.length + 1) y).set P.length x = P ++ x :: y :: R
  | [], R, x, y => rfl
  | p :: P, R, x, y => by simp
/-- A sorting, one number on its way. -/
structure Srt (out : List Int) (P S T : List Int) (x : Int) : Prop where
  nd : (P ++ x :: (S ++ T)).Nodup
  mem : ∀ z, z ∈ P ++ x :: (S ++ T) ↔ z ∈ out
  rise : (P ++ S).Pairwise (· < ·)
  low : ∀ s ∈ S, x < s
theorem Srt.swap {P S T : List Int} {x y : Int} (h : Srt out (P ++ [y]) S T x) (hy : x < y) : Srt out P (y :: S) T x := by
  have hp : (P ++ x :: (y :: S ++ T)).Perm (P ++ [y] ++ x :: (S ++ T)) := by
    rw [List.append_assoc]
    refine List.Perm.append_left P ?_
    simpa using List.Perm.swap y x (S ++ T)
  refine ⟨hp.nodup_iff.2 h.nd, fun z => (hp.mem_iff).trans (h.mem z), by simpa using h.rise, fun s hs => ?_⟩
  rcases List.mem_cons.1 hs with e | e
  · subst e; exact hy
  · exact h.low s e
theorem Srt.stop {P S T : List Int} {x : Int} (h : Srt out P S T x) (hp : ∀ P' y, P = P' ++ [y] → y < x) : (P ++ x :: S).Pairwise (· < ·) := by
  obtain ⟨r1, r2, r3⟩ := List.pairwise_append.1 h.rise
  have key : ∀ a ∈ P, a < x := fun a ha => by
    by_cases hP : P = []
    · subst hP; simp at ha
    · obtain ⟨P', y, e⟩ : ∃ P' y, P = P' ++ [y] := ⟨P.dropLast, P.getLast hP, (List.dropLast_concat_getLast hP).symm⟩
      have hy := hp P' y e
      rw [e] at ha r1
      rcases List.mem_append.1 ha with h1 | h1
      · have := (List.pairwise_append.1 r1).2.2 a h1 y (List.mem_singleton.2 rfl)
        omega
      · have := List.mem_singleton.1 h1
        omega
  refine List.pairwise_append.2 ⟨r1, List.pairwise_cons.2 ⟨h.low, r2⟩, fun a ha b hb => ?_⟩
  rcases List.mem_cons.1 hb with e | e
  · have := key a ha; omega
  · exact r3 a ha b e
/-- A sorting between two rounds. -/
structure Srd (out cur : List Int) (i : Nat) : Prop where
  nd : cur.Nodup
  mem : ∀ z, z ∈ cur ↔ z ∈ out
  rise : (cur.take i).Pairwise (· < ·)
theorem Srd.begin_ (h : out.Nodup) : Srd out out 1 := ⟨h, fun _ => Iff.rfl, by
  cases out with
  | nil => simp
  | cons x xs => simp⟩
theorem Srd.open_ {cur : List Int} {i : Nat} {x : Int} (h : Srd out cur i) (hx : cur[i]? = some x) : cur = cur.take i ++ x :: ([] ++ cur.drop (i + 1)) ∧ Srt out (cur.take i) [] (cur.drop (i + 1)) x := by
  have hlt := (List.getElem?_eq_some_iff.1 hx).1
  have e : cur = cur.take i ++ x :: ([] ++ cur.drop (i + 1)) := by
    rw [List.nil_append]
    have h1 := List.getElem?_eq_getElem hlt
    rw [hx] at h1
    have h2 := List.drop_eq_getElem_cons hlt
    rw [← Option.some.inj h1] at h2
    rw [← h2, List.take_append_drop]
  exact ⟨e, by rw [← e]; exact h.nd, fun z => by rw [← e]; exact h.mem z, by rw [List.append_nil]; exact h.rise, fun s hs => by simp at hs⟩
theorem Srt.close {P S T : List Int} {x : Int} (h : Srt out P S T x) (hp : ∀ P' y, P = P' ++ [y] → y < x) : Srd out (P ++ x :: (S ++ T)) (P.length + S.length + 1) :=
  ⟨h.nd, h.mem, by
    have : (P ++ x :: (S ++ T)).take (P.length + S.length + 1) = P ++ x :: S := by
      rw [show P ++ x :: (S ++ T) = (P ++ x :: S) ++ T by simp, List.take_append_of_le_length (by simp; omega), List.take_of_length_le (by simp; omega)]
    rw [this]
    exact h.stop hp⟩
theorem rise_eq : ∀ (a b : List Int), a.Pairwise (· < ·) → b.Pairwise (· < ·) → (∀ x, x ∈ a ↔ x ∈ b) → a = b
  | [], [], _, _, _ => rfl
  | [], y :: b, _, _, h => by have := (h y).2 List.mem_cons_self; simp at this
  | x :: a, [], _, _, h => by have := (h x).1 List.mem_cons_self; simp at this
  | x :: a, y :: b, ha, hb, h => by
    obtain ⟨a1, a2⟩ := List.pairwise_cons.1 ha
    obtain ⟨b1, b2⟩ := List.pairwise_cons.1 hb
    have hxy : x = y := by
      have h1 := (h x).1 List.mem_cons_self
      have h2 := (h y).2 List.mem_cons_self
      rcases List.mem_cons.1 h1 with e | e
      · exact e
      · rcases List.mem_cons.1 h2 with e2 | e2
        · exact e2.symm
        · have := b1 x e; have := a1 y e2; omega
    subst hxy
    rw [rise_eq a b a2 b2 fun z => ?_]
    constructor
    · intro hz
      have := (h z).1 (List.mem_cons_of_mem _ hz)
      rcases List.mem_cons.1 this with e | e
      · have := a1 z hz; omega
      · exact e
    · intro hz
      have := (h z).2 (List.mem_cons_of_mem _ hz)
      rcases List.mem_cons.1 this with e | e
      · have := b1 z hz; omega
      · exact e
/-- What rises and holds just what is reached is what is kept. -/
theorem rise_kept {out : List Int} (hr : out.Pairwise (· < ·)) (hm : ∀ x, x ∈ out ↔ Rch ss l roots x) (ho : ∀ x ∈ out, (objZ l x).isSome = true) : ∃ K, out = keysK K ∧ RchK ss l roots K := by
  have hk : ∀ x, x ∈ keysK ((pairA 0 l).filter fun y => decide ((y.1 : Int) + 1 ∈ out)) ↔ x ∈ out := fun x => by
    constructor
    · intro h
      obtain ⟨y, h1, rfl⟩ := List.mem_map.1 h
      simpa using (List.mem_filter.1 h1).2
    · intro h
      obtain ⟨o, h1⟩ := Option.isSome_iff_exists.1 (ho x h)
      obtain ⟨h2, h3⟩ := objZ_pair h1
      refine List.mem_map.2 ⟨_, List.mem_filter.2 ⟨h2, ?_⟩, h3⟩
      simp only [h3]
      simpa using h
  have hok : KOk l ((pairA 0 l).filter fun y => decide ((y.1 : Int) + 1 ∈ out)) := ⟨fun x hx => by
    have := (pairA_at l 0 x).1 (List.mem_filter.1 hx).1
    simpa using this.2, (pairA_rise l 0).filter _⟩
  have hrk : (keysK ((pairA 0 l).filter fun y => decide ((y.1 : Int) + 1 ∈ out))).Pairwise (· < ·) := by
    unfold keysK
    rw [List.pairwise_map]
    exact hok.rise.imp fun {a b} h => by omega
  exact ⟨_, rise_eq _ _ hr hrk (fun x => (hk x).symm), hok, fun x => (hk x).trans (hm x)⟩
/-- What Mark of the document's own heap answers. -/
def UMQ (w : World) (ss : List (List Bool)) (l : List Ob) (roots : List Int) (v : Value) (w' : World) : Prop :=
  ∃ K, RchK ss l roots K ∧ NOwn w' w.heap.size v (keysK K) ∧ Below w.heap.size w w'
set_option maxRecDepth 8000 in
set_option maxHeartbeats 8000000 in
theorem umark_any (h : RV n0 w R most l ss) (hr : RefsOk ss l) (vr : Value) (hv : NView w vr roots) (hrl : (roots.length + usedN l + 2) * 8 ≤ 140737488355328) :
    Calls Try.prog 22 #[R.ptr, vr] w fun e w' => (roots.all (rootB l) = false ∧ e = .returned (.tuple #[.slice none 0 0, .bool false]) ∧ Below w.heap.size w w') ∨ (roots.all (rootB l) = true ∧ ∃ v, e = .returned (.tuple #[v, .bool true]) ∧ UMQ w ss l roots v w') := by
  have HV := hidIt hv
  obtain ⟨ao, cap, rfl, hc, hm, _⟩ := hv
  unfold maxLen at hm
  have HR := hidIt hr
  have hm2 : usedN l ≤ 16384 := Nat.le_trans h.few h.most
  have HFN : Hid (∀ W, Below w.heap.size w W → ∀ x, objZ l x = none → Calls Try.prog 45 #[.pointer (some ⟨R.rb, 0, none⟩), .int .i64 x] W fun e w' => e = .returned (.pointer none) ∧ w' = W) := hidIt (fun W hb x hx => ufind_none (h.below hb) x hx)
  have HFS : Hid (∀ x o, objZ l x = some o → ∃ g i, (∀ W, Below w.heap.size w W → Calls Try.prog 45 #[.pointer (some ⟨R.rb, 0, none⟩), .int .i64 x] W fun e w' => e = .returned (.pointer (some ⟨g, i * 4, none⟩)) ∧ w' = W) ∧ ∃ af cf, w.cell? ⟨g, i * 4 + 2, none⟩ = some (.slice af o.f.length cf) ∧ w.ownsRow n0 2 1 (.slice af o.f.length cf) o.f.length (icells o.f)) := hidIt (fun x o ho => by
    obtain ⟨i, hi, ei⟩ := objZ_idx ho
    obtain ⟨g, cap', u, el, hu, -, -, c2, -⟩ := h.obj hi
    have hf := h.fo i u o hu hi
    obtain ⟨af, cf, rfl⟩ := own_slice hf
    exact ⟨g, i, fun W hb => by rw [ei]; exact ufind_some (h.below hb) hi el, af, cf, c2, hf⟩)
  have HIR : Hid (∀ W, Below w.heap.size w W → ∀ x o, objZ l x = some o → ∀ n : Nat, n < o.f.length → Calls Try.prog 46 #[.pointer (some ⟨R.rb, 0, none⟩), .int .i64 x, .int .i64 (n : Int)] W fun e w' => e = .returned (.bool (rb ss o.sh n)) ∧ ∃ q, w' = W.drewN q) := hidIt (fun W hb x o ho n hn => by
    have := uisref_yes (h.below hb) x (n : Int) (hasZ_of ho (by omega) (by omega))
    rw [refZ_rb ho hn] at this
    exact this)
  unfold RB.ptr
  clear h hr
  go_enter Try.func22, Try.ntmps22
  go_wp2_with fail
  go_loopw [7, 8] (fun lv iv wr => ∃ (i : Nat) (al : Option Addr) (cl : Nat), i ≤ roots.length ∧ iv = .int .i64 (i : Int) ∧ lv = .slice al (roots.take i).length cl ∧ OL w.heap.size w wr (.slice none 0 0) (.slice al (roots.take i).length cl) [] (roots.take i) ∧ (∀ (j : Nat) x, roots[j]? = some x → j < i → rootB l x = true)) (fun _ iv _ => roots.length - (intOf iv).toNat)
  case atStart => exact ⟨0, none, 0, Nat.zero_le _, rfl, rfl, ⟨NOwn.nil _ _, NOwn.nil _ _, fun b hb => (by cases hb), Below.refl _ _⟩, fun _ _ _ h => absurd h (by omega)⟩
  case round =>
    obtain ⟨i, al, cl, hi, rfl, rfl, ho, hall⟩ := hrel
    have HO := hidIt ho
    have HB := hidIt ho.below
    have hz : w.heap.size ≤ wr.heap.size := ho.below.size
    have hti : ((roots.take i).length + 1) * 8 ≤ 140737488355328 := by rw [List.length_take]; omega
    by_cases hlt : i < roots.length
    · have hlt' : (i : Int) < (roots.length : Int) := by omega
      obtain ⟨x, hx⟩ : ∃ x, roots[i]? = some x := ⟨roots[i], List.getElem?_eq_getElem hlt⟩
      obtain ⟨g, off, rfl, c0⟩ := (HV.out.below HB.out).row hx
      cases hrb : rootB l x with
      | false =>
        have HA : Hid (roots.all (rootB l) = false) := hidIt (by
          rw [List.all_eq_false]
          exact ⟨x, List.mem_of_getElem? hx, by rw [hrb]; decide⟩)
        have hx0 : x ≠ 0 := fun e => by subst e; simp [rootB] at hrb
        have hxn : objZ l x = none := by
          cases e : objZ l x with
          | none => rfl
          | some o => simp [rootB, e] at hrb
        have GF := hidIt (HFN.out wr HB.out x hxn)
        clear hall hx hrb hxn ho HFN HFS HIR
        generalize roots.take i = acc at *
        go_wp2_with (go_at_call 45; refine GF.out.mono ?_; rintro e w' ⟨rfl, hww⟩; cases hww)
        go_ret2
        exact .inl ⟨HA.out, rfl, HB.out⟩
      | true =>
        have NX : Hid (∀ W av cv, OL w.heap.size w W (.slice none 0 0) (.slice av ((roots.take i).length + 1) cv) [] (roots.take i ++ [x]) → ∃ (i' : Nat) (al : Option Addr) (cl : Nat), i' ≤ roots.length ∧ Value.int .i64 ((i : Int) + 1) = .int .i64 (i' : Int) ∧ Value.slice av ((roots.take i).length + 1) cv = .slice al (roots.take i').length cl ∧ OL w.heap.size w W (.slice none 0 0) (.slice al (roots.take i').length cl) [] (roots.take i') ∧ (∀ (j : Nat) x, roots[j]? = some x → j < i' → rootB l x = true)) := hidIt (fun W av cv h1 => by
          have e1 : roots.take (i + 1) = roots.take i ++ [x] := take_snoc hx
          have e2 : (roots.take (i + 1)).length = (roots.take i).length + 1 := by rw [e1]; simp
          refine ⟨i + 1, av, cv, by omega, by go_num, by rw [e2], by rw [e2, e1]; exact h1, fun j y hy hji => ?_⟩
          by_cases e : j = i
          · subst e; rw [hx] at hy; cases hy; exact hrb
          · exact hall j y hy (by omega))
        by_cases h0 : x = 0
        · subst h0
          clear hall hx hrb ho HFN HFS HIR
          generalize roots.take i = acc at *
          go_wp2_with (at_builtin; refine wpList_nappendR rfl _ _ rfl w.heap.size _ _ _ HO.out.l rfl rfl (by omega) hz ?_; intro ao3 cap3 w2 ho2 st2; have HQ := hidIt (NX.out _ _ _ (HO.out.pushL hz ho2 st2)); clear ho2 st2 NX)
          exact ⟨HQ.out, by simp [intOf]; omega⟩
        · obtain ⟨o, hxo⟩ : ∃ o, objZ l x = some o := Option.isSome_iff_exists.1 ((rootB_iff.1 hrb).resolve_left h0)
          obtain ⟨gf, jf, GF, -⟩ := HFS.out x o hxo
          have GF2 := hidIt (GF wr HB.out)
          clear hall hx hrb ho HFN HFS HIR GF hxo
          generalize roots.take i = acc at *
          go_wp2_with (first
            | (go_at_call 45; refine GF2.out.mono ?_; rintro e w' ⟨rfl, hww⟩; cases hww)
            | (at_builtin; refine wpList_nappendR rfl _ _ rfl w.heap.size _ _ _ HO.out.l rfl rfl (by omega) hz ?_; intro ao3 cap3 w2 ho2 st2; have HQ := hidIt (NX.out _ _ _ (HO.out.pushL hz ho2 st2)); clear ho2 st2 NX))
          exact ⟨HQ.out, by simp [intOf]; omega⟩
    · have hlt' : ¬ (i : Int) < (roots.length : Int) := by omega
      obtain rfl : i = roots.length := by omega
      have hgood : ∀ x ∈ roots, x = 0 ∨ (objZ l x).isSome = true := fun x hx => by
        obtain ⟨j, hj⟩ := List.getElem?_of_mem hx
        exact rootB_iff.1 (hall j x hj (List.getElem?_eq_some_iff.1 hj).1)
      have HA : Hid (roots.all (rootB l) = true) := hidIt (by
        rw [List.all_eq_true]
        exact fun x hx => rootB_iff.2 (hgood x hx))
      rw [List.take_length] at HO ⊢
      have M0 : Hid (MkW w ss l roots (.slice none 0 0) (.slice al roots.length cl) wr) := hidIt ⟨[], roots, none, al, 0, cl, rfl, rfl, HO.out, Mrk.start hgood, by simp [wtL]⟩
      clear hall ho HO
      go_wp2_with fail
      obtain ⟨V, hV⟩ : ∃ V, V = wr := ⟨wr, rfl⟩
      clear hV HB hz hti hlt hi hlt'
      generalize hRL : roots.length = RL at *
      go_loopw [6, 7] (fun ov lv wr => MkW w ss l roots ov lv wr) (fun ov lv _ => (l.length - lenV ov) * 16385 + lenV lv)
      case atStart => exact M0.out
      case round =>
        clear M0
        obtain ⟨out, left, ao, al, co, cl, rfl, rfl, ho, hm, hbd⟩ := hrel
        have hz : w.heap.size ≤ wr.heap.size := ho.below.size
        have hol := hm.len
        have hwt0 := hm.wt
        have hge := usedN_ge l
        rw [hRL] at hbd
        by_cases hl0 : left = []
        · subst hl0
          have HE := hidIt hm.end_
          have HND := hidIt hm.nd
          have HOB := hidIt hm.ob
          have HOo := hidIt ho.o
          have HBo := hidIt ho.below
          clear ho hm HFN HFS HIR HV hbd
          obtain ⟨N, hN⟩ : ∃ N, N = out.length := ⟨_, rfl⟩
          rw [← hN] at HOo ⊢
          simp only [List.length_nil]
          have HOc : Hid (wr.ownsRow w.heap.size 3 1 (.slice ao N co) N (icells out)) := hidIt (by
            have := HOo.out
            unfold NOwn at this
            rwa [← hN] at this)
          have hNl : N ≤ 16384 := by omega
          have S1 := hidIt (Srd.begin_ HND.out)
          have HNe := hidIt hN
          clear HOo hN
          go_wp2_with fail
          go_loopw [12] (fun iv wr => ∃ (i : Nat) (cur : List Int), iv = .int .i64 (i : Int) ∧ 1 ≤ i ∧ (i ≤ N ∨ i = 1) ∧ cur.length = N ∧ wr.ownsRow w.heap.size 3 1 (.slice ao N co) N (icells cur) ∧ Srd out cur i ∧ Below w.heap.size w wr) (fun iv _ => N - (intOf iv).toNat)
          case atStart => exact ⟨1, out, rfl, Nat.le_refl _, .inr rfl, HNe.out.symm, HOc.out, S1.out, HBo.out⟩
          case round =>
            clear HOc S1 HBo
            obtain ⟨i, cur, rfl, hi1, hi2, hcl, ho, hs, hb⟩ := hrel
            by_cases hlt : i < N
            · have hlt' : (i : Int) < (N : Int) := by omega
              obtain ⟨x, hx⟩ : ∃ x, cur[i]? = some x := ⟨cur[i]'(by omega), List.getElem?_eq_getElem (by omega)⟩
              obtain ⟨e1, hsr⟩ := hs.open_ hx
              have hd : (cur.drop (i + 1)).length = N - (i + 1) := by rw [List.length_drop, hcl]
              have ht : (cur.take i).length = i := by rw [List.length_take]; omega
              rw [e1] at ho
              have HP0 : Hid (∃ (P S T : List Int), Value.int .i64 (i : Int) = .int .i64 (P.length : Int) ∧ P.length + S.length = i ∧ P.length + S.length + T.length + 1 = N ∧ wr.ownsRow w.heap.size 3 1 (.slice ao N co) N (icells (P ++ x :: (S ++ T))) ∧ Srt out P S T x ∧ Below w.heap.size w wr) := hidIt ⟨cur.take i, [], cur.drop (i + 1), by rw [ht], by rw [ht]; rfl, by rw [ht, hd]; simp; omega, ho, hsr, hb⟩
              clear ho hs hb hsr e1 hx hd ht
              go_wp2_with fail
              go_loopw [13] (fun kv wr => ∃ (P S T : List Int), kv = .int .i64 (P.length : Int) ∧ P.length + S.length = i ∧ P.length + S.length + T.length + 1 = N ∧ wr.ownsRow w.heap.size 3 1 (.slice ao N co) N (icells (P ++ x :: (S ++ T))) ∧ Srt out P S T x ∧ Below w.heap.size w wr) (fun kv _ => (intOf kv).toNat)
              case atStart => exact HP0.out
              case round =>
                clear HP0
                obtain ⟨P, S, T, rfl, hPS, hPT, ho, hs, hb⟩ := hrel
                have HB := hidIt hb
                by_cases hP : P = []
                · subst hP
                  have NX : Hid (∀ q, ∃ (i' : Nat) (cur : List Int), Value.int .i64 ((i : Int) + 1) = .int .i64 (i' : Int) ∧ 1 ≤ i' ∧ (i' ≤ N ∨ i' = 1) ∧ cur.length = N ∧ (wr.drewN q).ownsRow w.heap.size 3 1 (.slice ao N co) N (icells cur) ∧ Srd out cur i' ∧ Below w.heap.size w (wr.drewN q)) := hidIt (fun q => ⟨i + 1, x :: (S ++ T), by go_num, by omega, .inl (by omega), by simp at hPT ⊢; omega, ho, by
                    have := hs.close (fun P' y e => by have := congrArg List.length e; simp at this)
                    simp at hPS
                    simpa [hPS] using this, hb.trans ((below_drewU wr q).mono hb.size)⟩)
                  have hpl : ([] : List Int).length = 0 := rfl
                  rw [hpl]
                  clear ho hs hb hPS hPT
                  go_wp2_with fail
                  go_quiet (fail)
                  go_wp2_with fail
                  exact ⟨NX.out _, by simp [intOf]; omega⟩
                · obtain ⟨P', y, rfl⟩ : ∃ P' y, P = P' ++ [y] := ⟨P.dropLast, P.getLast hP, (List.dropLast_concat_getLast hP).symm⟩
                  have hpl : (P' ++ [y]).length = P'.length + 1 := by simp
                  rw [hpl] at hPS hPT ⊢
                  have hea : P' ++ [y] ++ x :: (S ++ T) = P' ++ y :: x :: (S ++ T) := by simp
                  rw [hea] at ho
                  have hy : (P' ++ y :: x :: (S ++ T))[P'.length]? = some y := by simp
                  have hx : (P' ++ y :: x :: (S ++ T))[P'.length + 1]? = some x := by
                    rw [List.getElem?_append_right (by omega)]; simp
                  obtain ⟨g, rfl, hgB, -, c0, f0⟩ := own_cell ho (icells_at hy)
                  obtain ⟨g', e9, -, -, c1, f1⟩ := own_cell ho (icells_at hx)
                  cases e9
                  have hw1 : IntKind.i64.wrap ((P'.length : Int) + 1 - 1) = (P'.length : Int) := by rw [IntKind.wrap_i64]; omega
                  have hw2 : IntKind.i64.wrap (P'.length : Int) = (P'.length : Int) := by rw [IntKind.wrap_i64]; omega
                  have hkN : (P'.length : Int) + 1 < (N : Int) := by omega
                  have hkN0 : (P'.length : Int) < (N : Int) := by omega
                  have hkn : P'.length + 1 < N := by omega
                  have hne : y ≠ x := fun e => by
                    have := hs.nd
                    rw [hea, e] at this
                    have h2 := (List.nodup_append.1 this).2.1
                    simp at h2
                  by_cases hxy : x < y
                  · have hs2 := hs.swap hxy
                    have NX : Hid (∀ W : World, W.ownsRow w.heap.size 3 1 (.slice (some ⟨g, 0, none⟩) N co) N (icells (P' ++ x :: y :: (S ++ T))) → Below w.heap.size w W → ∃ (P S T : List Int), Value.int .i64 (P'.length : Int) = .int .i64 (P.length : Int) ∧ P.length + S.length = i ∧ P.length + S.length + T.length + 1 = N ∧ W.ownsRow w.heap.size 3 1 (.slice (some ⟨g, 0, none⟩) N co) N (icells (P ++ x :: (S ++ T))) ∧ Srt out P S T x ∧ Below w.heap.size w W) := hidIt (fun W h1 h2 => ⟨P', y :: S, T, rfl, by simp; omega, by simp; omega, by simpa using h1, hs2, h2⟩)
                    have o1 := own_set (j := P'.length + 1) (own_set (j := P'.length) ho (.int .i64 x)) (.int .i64 y)
                    have e1 : ((icells (P' ++ y :: x :: (S ++ T))).set P'.length (.int .i64 x)).set (P'.length + 1) (.int .i64 y) = icells (P' ++ x :: y :: (S ++ T)) := by
                      rw [← swap_at]; simp [icells]
                    rw [e1] at o1
                    have Q1 := hidIt (fun (q : Nat) => NX.out ((((wr.setCell ⟨g, P'.length, none⟩ (.int .i64 x)).setCell ⟨g, P'.length + 1, none⟩ (.int .i64 y))).drewN q) o1 (below_drewN ((hb.setCell (p := ⟨g, P'.length, none⟩) hgB _).setCell (p := ⟨g, P'.length + 1, none⟩) hgB _) q))
                    have hyx : ¬ y ≤ x := by omega
                    clear ho hs hs2 hb NX o1 e1 hea hy hx hP HND HOB HE
                    go_wp2_with fail
                    go_quiet (fail)
                    go_wp2_with fail
                    go_region
                    all_goals go_wp2_with fail
                    all_goals exact ⟨Q1.out _, by simp [intOf]⟩
                  · have hxy' : y < x := by omega
                    have NX : Hid (∀ q, ∃ (i' : Nat) (cur : List Int), Value.int .i64 ((i : Int) + 1) = .int .i64 (i' : Int) ∧ 1 ≤ i' ∧ (i' ≤ N ∨ i' = 1) ∧ cur.length = N ∧ (wr.drewN q).ownsRow w.heap.size 3 1 (.slice (some ⟨g, 0, none⟩) N co) N (icells cur) ∧ Srd out cur i' ∧ Below w.heap.size w (wr.drewN q)) := hidIt (fun q => ⟨i + 1, P' ++ y :: x :: (S ++ T), by go_num, by omega, .inl (by omega), by simp; omega, ho, by
                      have := hs.close (fun P2 z e => by
                        have h1 := congrArg List.getLast? e
                        simp at h1
                        omega)
                      rw [hea, hpl, hPS] at this
                      exact this, hb.trans ((below_drewU wr q).mono hb.size)⟩)
                    clear ho hs hb hea hy hx hP HND HOB HE
                    go_wp2_with fail
                    go_quiet (fail)
                    go_wp2_with fail
                    exact ⟨NX.out _, by simp [intOf]; omega⟩
            · have hlt' : ¬ (i : Int) < (N : Int) := by omega
              have hrise : cur.Pairwise (· < ·) := by
                by_cases hN1 : N ≤ i
                · have := hs.rise
                  rwa [List.take_of_length_le (by omega)] at this
                · exfalso; omega
              obtain ⟨K, hK1, hK2⟩ := rise_kept (roots := roots) (ss := ss) (l := l) hrise (fun z => (hs.mem z).trans (HE.out z)) (fun z hz => HOB.out z ((hs.mem z).1 hz))
              have FIN : Hid (UMQ w ss l roots (.slice ao N co) wr) := hidIt ⟨K, hK2, by
                rw [← hK1]
                unfold NOwn
                rw [hcl]
                exact ho, hb⟩
              clear ho hs hb hrise hK1 hK2
              go_wp2_with fail
              go_ret2
              exact .inr ⟨fun x hx => List.all_eq_true.1 HA.out x hx, _, rfl, FIN.out⟩
        · obtain ⟨left', n, rfl⟩ : ∃ left' n, left = left' ++ [n] := ⟨left.dropLast, left.getLast hl0, (List.dropLast_concat_getLast hl0).symm⟩
          have hl1 : (left' ++ [n]).length = left'.length + 1 := by simp
          rw [hl1] at ho hbd ⊢
          have hol1 := ho.l
          unfold NOwn at hol1
          rw [hl1] at hol1
          have hin : (left' ++ [n])[left'.length]? = some n := by simp
          obtain ⟨gl, rfl, -, -, c0, -⟩ := own_cell hol1 (icells_at hin)
          have hcap := own_cap hol1
          have hcl : left'.length ≤ cl := by omega
          have HT := hidIt ho.trim
          have GH := hidIt (uhas_any _ out n wr (NOwn.view ho.o))
          have hw0 : IntKind.i64.wrap ((left'.length : Int) + 1 - 1) = (left'.length : Int) := by rw [IntKind.wrap_i64]; omega
          have hlp : ¬ ((left'.length : Int) + 1 ≤ 0) := by omega
          by_cases hn : n = 0 ∨ n ∈ out
          · have NX : Hid (MkW w ss l roots (.slice ao out.length co) (.slice (some ⟨gl, 0, none⟩) left'.length cl) wr) := hidIt ⟨out, left', ao, _, co, cl, rfl, rfl, ho.trim, hm.skip hn, by rw [hRL]; omega⟩
            have hms : (l.length - out.length) * 16385 + left'.length < (l.length - out.length) * 16385 + (left'.length + 1) := by omega
            rcases (show n = 0 ∨ (n ≠ 0 ∧ n ∈ out) by
              by_cases e : n = 0
              · exact .inl e
              · exact .inr ⟨e, hn.resolve_left e⟩) with h0 | ⟨h0, h1⟩
            · subst h0
              clear ho hm hn HT HFN HFS HIR HV
              go_wp2_with (go_at_call 48; refine GH.out.mono ?_; rintro e w' ⟨rfl, hww⟩; cases hww)
              exact ⟨NX.out, by simp [lenV]⟩
            · have hge : 0 ≤ hasI out n := hasI_ge.2 h1
              clear ho hm hn HT HFN HFS HIR HV h1
              generalize hasI out n = A at *
              go_wp2_with (go_at_call 48; refine GH.out.mono ?_; rintro e w' ⟨rfl, hww⟩; cases hww)
              exact ⟨NX.out, by simp [lenV]⟩
          · have h0 : n ≠ 0 := fun e => hn (.inl e)
            have h1 : n ∉ out := fun e => hn (.inr e)
            have hge2 : ¬ 0 ≤ hasI out n := fun h => h1 (hasI_ge.1 h)
            have hge3 : hasI out n < 0 := by omega
            have hge4 : decide (0 ≤ hasI out n) = false := by simpa using hge3
            have hge5 : (n == 0) = false := by simpa using h0
            obtain ⟨o, hxo⟩ : ∃ o, objZ l n = some o := Option.isSome_iff_exists.1 ((hm.lo n (by simp)).resolve_left h0)
            have hadd := hm.add HR.out h0 h1 hxo
            have hal := hadd.len
            have hwt := hadd.wt
            have hlN : lenN l n = o.f.length + 1 := by unfold lenN; rw [hxo]
            rw [wtL_snoc, hlN] at hwt
            rw [List.length_append] at hal
            simp only [List.length_cons, List.length_nil] at hal
            have hofl : o.f.length ≤ 16384 := by have := objZ_in hxo; omega
            obtain ⟨gf, jf, GF, af, cf, c2, hfo⟩ := HFS.out n o hxo
            have HGF := hidIt GF
            have HC2 : Hid (∀ W, Below w.heap.size w W → W.cell? ⟨gf, jf * 4 + 2, none⟩ = some (.slice af o.f.length cf)) := hidIt (fun W hb => cell_later hb c2)
            have HFO := hidIt hfo
            have HFC := own_cap hfo
            have hcf : o.f.length ≤ cf := HFC.1
            have HIR2 := hidIt (fun W hb => HIR.out W hb n o hxo)
            have FIN : Hid (∀ W al2 cl2 a2 c2, OL w.heap.size w W (.slice a2 (out.length + 1) c2) (.slice al2 (left' ++ refsN ss o o.f.length).length cl2) (out ++ [n]) (left' ++ refsN ss o o.f.length) → MkW w ss l roots (.slice a2 (out.length + 1) c2) (.slice al2 (left' ++ refsN ss o o.f.length).length cl2) W ∧ (l.length - lenV (.slice a2 (out.length + 1) c2)) * 16385 + lenV (.slice al2 (left' ++ refsN ss o o.f.length).length cl2) < (l.length - lenV (.slice ao out.length co)) * 16385 + lenV (.slice (some ⟨gl, 0, none⟩) (left'.length + 1) cl)) := hidIt (fun W al2 cl2 a2 c2 h2 => by
              have hrl := refsN_len (ss := ss) o o.f.length
              refine ⟨⟨out ++ [n], _, a2, al2, c2, cl2, by simp, rfl, h2, hadd, by rw [List.length_append, hRL, wtL_snoc, hlN]; omega⟩, ?_⟩
              simp only [lenV, List.length_append]
              omega)
            clear ho hm hn hadd hxo h1 c2 hfo GF HFN HFS HIR HV HFC hol1 hcap
            generalize hasI out n = A at *
            go_wp2_with (first
              | (go_at_call 48; refine GH.out.mono ?_; rintro e w' ⟨rfl, hww⟩; cases hww)
              | (at_builtin; refine wpList_nappend rfl _ _ rfl w.heap.size _ _ _ HT.out.o rfl rfl (by omega) hz ?_; intro ao3 co3 w2 ho2 st2; have HT2 := hidIt (HT.out.pushO hz ho2 st2); have GF2 := hidIt (HGF.out w2 HT2.out.below); clear ho2 st2 HT)
              | (go_at_call 45; refine GF2.out.mono ?_; rintro e w' ⟨rfl, hww⟩; cases hww))
            go_loopw [7, 11] (fun lv kv wr => ∃ (k : Nat) (al : Option Addr) (cl : Nat), k ≤ o.f.length ∧ kv = .int .i64 (k : Int) ∧ lv = .slice al (left' ++ refsN ss o k).length cl ∧ OL w.heap.size w wr (.slice ao3 (out.length + 1) co3) (.slice al (left' ++ refsN ss o k).length cl) (out ++ [n]) (left' ++ refsN ss o k)) (fun _ kv _ => o.f.length - (intOf kv).toNat)
            case atStart => exact ⟨0, _, cl, Nat.zero_le _, rfl, by rw [refsN_zero, List.append_nil], by rw [refsN_zero, List.append_nil]; exact HT2.out⟩
            case round =>
              clear HT2 GF2 HGF GH
              obtain ⟨k, al, cl4, hk, rfl, rfl, ho⟩ := hrel
              have hz : w.heap.size ≤ wr.heap.size := ho.below.size
              have HO := hidIt ho
              have c2 := HC2.out wr ho.below
              by_cases hlt : k < o.f.length
              · have hlt' : (k : Int) < (o.f.length : Int) := by omega
                obtain ⟨y, hy⟩ : ∃ y, o.f[k]? = some y := ⟨o.f[k], List.getElem?_eq_getElem hlt⟩
                obtain ⟨gff, rfl, -, hgf, c5, -⟩ := own_cell HFO.out (icells_at hy)
                have HC5 : Hid (∀ W, Below w.heap.size w W → W.cell? ⟨gff, k, none⟩ = some (.int .i64 y)) := hidIt (fun W hb => cell_later hb c5)
                have GI := hidIt (HIR2.out wr ho.below k hlt)
                have hst := refsN_step (ss := ss) hy
                have hll : ((left' ++ refsN ss o k).length + 1) * 8 ≤ 140737488355328 := by
                  have := refsN_len (ss := ss) o k
                  rw [List.length_append]; omega
                cases e1 : rb ss o.sh k with
                | false =>
                  rw [e1] at GI hst
                  simp only [Bool.false_eq_true, if_false, List.append_nil] at hst
                  have NX : Hid (∀ q, ∃ (k' : Nat) (al' : Option Addr) (cl' : Nat), k' ≤ o.f.length ∧ Value.int .i64 ((k : Int) + 1) = .int .i64 (k' : Int) ∧ Value.slice al (left' ++ refsN ss o k).length cl4 = .slice al' (left' ++ refsN ss o k').length cl' ∧ OL w.heap.size w (wr.drewN q) (.slice ao3 (out.length + 1) co3) (.slice al' (left' ++ refsN ss o k').length cl') (out ++ [n]) (left' ++ refsN ss o k')) := hidIt (fun q => ⟨k + 1, al, cl4, by omega, by go_num, by rw [hst], by rw [hst]; exact HO.out.next (below_drewU wr q) hz⟩)
                  clear ho hst e1 hy c5 HO
                  generalize left' ++ refsN ss o k = acc at *
                  go_wp2_with (go_at_call 46; refine GI.out.mono ?_; rintro e w' ⟨rfl, q, hww⟩; subst hww; have NX2 := hidIt (NX.out q))
                  exact ⟨NX2.out, by simp [intOf]; omega⟩
                | true =>
                  rw [e1] at GI hst
                  simp only [if_true] at hst
                  have NX : Hid (∀ W a c, OL w.heap.size w W (.slice ao3 (out.length + 1) co3) (.slice a ((left' ++ refsN ss o k).length + 1) c) (out ++ [n]) (left' ++ refsN ss o k ++ [y]) → ∃ (k' : Nat) (al' : Option Addr) (cl' : Nat), k' ≤ o.f.length ∧ Value.int .i64 ((k : Int) + 1) = .int .i64 (k' : Int) ∧ Value.slice a ((left' ++ refsN ss o k).length + 1) c = .slice al' (left' ++ refsN ss o k').length cl' ∧ OL w.heap.size w W (.slice ao3 (out.length + 1) co3) (.slice al' (left' ++ refsN ss o k').length cl') (out ++ [n]) (left' ++ refsN ss o k')) := hidIt (fun W a c h => by
                    have e2 : left' ++ refsN ss o (k + 1) = left' ++ refsN ss o k ++ [y] := by rw [hst, List.append_assoc]
                    have e3 : (left' ++ refsN ss o (k + 1)).length = (left' ++ refsN ss o k).length + 1 := by rw [e2, List.length_append]; rfl
                    exact ⟨k + 1, a, c, by omega, by go_num, by rw [e3], by rw [e3, e2]; exact h⟩)
                  have HOq : Hid (∀ q, OL w.heap.size w (wr.drewN q) (.slice ao3 (out.length + 1) co3) (.slice al (left' ++ refsN ss o k).length cl4) (out ++ [n]) (left' ++ refsN ss o k)) := hidIt (fun q => HO.out.next (below_drewU wr q) hz)
                  clear ho hst e1 hy c5 HO
                  generalize left' ++ refsN ss o k = acc at *
                  go_wp2_with (first
                    | (go_at_call 46; refine GI.out.mono ?_; rintro e w5 ⟨rfl, q, hww⟩; have HO5 := hidIt (HOq.out q); rw [← hww] at HO5; clear hww; have d2 := HC2.out w5 HO5.out.below; have d5 := HC5.out w5 HO5.out.below; have hz5 := HO5.out.below.size)
                    | (at_builtin; refine wpList_nappendR rfl _ _ rfl w.heap.size _ _ _ HO5.out.l rfl rfl (by omega) hz5 ?_; intro ao4 cap4 w9 ho2 st2; have NX2 := hidIt (NX.out _ _ _ (HO5.out.pushL hz5 ho2 st2)); clear ho2 st2))
                  exact ⟨NX2.out, by simp [intOf]; omega⟩
              · have hlt' : ¬ (k : Int) < (o.f.length : Int) := by omega
                obtain rfl : k = o.f.length := by omega
                have FF := hidIt (FIN.out wr al cl4 ao3 co3 ho)
                clear ho HO FIN HFO
                generalize (left' ++ refsN ss o o.f.length).length = LL at *
                go_wp2_with fail
                exact FF.out
end Go.Proofs.Ytepegebkjegjiaa.J

