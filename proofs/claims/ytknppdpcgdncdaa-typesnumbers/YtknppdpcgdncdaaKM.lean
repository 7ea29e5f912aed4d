/- A Kin as its readers see it; Sub, Line. -/
import Derived.Test.YtknppdpcgdncdaaKL
namespace Go.Proofs.Ytknppdpcgdncdaa.K
open Go.RowKit Go.Shelf Q Q.D
attribute [local go_sem] Oper.semAt_some

def ents (R : List Mem) : List (ByteArray × Value) := R.reverse.map fun m => (m.k.nm, enc m)
theorem slook_snoc (l : List (ByteArray × Value)) (n : ByteArray) (v : Value) (s : ByteArray) : slook (l ++ [(n, v)]) s = (slook l s).or (if s == n then some v else none) := by
  induction l with
  | nil => simp [slook]
  | cons p l ih =>
    simp only [List.cons_append, slook]
    split
    · rfl
    · exact ih
def Apart : List Mem → Prop
  | [] => True
  | m :: o => mfind o m.k.nm = none ∧ Apart o
theorem Mems.apart {w : World} : ∀ {l : List Mem}, Mems w l → Apart l
  | [], _ => trivial
  | _ :: _, ⟨_, h, k⟩ => ⟨h, Mems.apart k⟩
theorem slook_ents : ∀ {R : List Mem} (s : ByteArray), Apart R → slook (ents R) s = (mfind R s).map enc
  | [], _, _ => rfl
  | m :: o, s, ⟨h1, h2⟩ => by
    have ih := slook_ents s h2
    have : ents (m :: o) = ents o ++ [(m.k.nm, enc m)] := by simp [ents]
    rw [this, slook_snoc, ih]
    simp only [mfind]
    cases hs : s == m.k.nm
    · simp
    · have e : s = m.k.nm := (MapKept.bytes_beq _ _).1 hs
      rw [e, h1]
      simp
structure KinV (w : World) (pk : Nat) (R : List Mem) (mb : Nat) (ao : Option Addr) (c : Nat) : Prop where
  e0 : w.cell? ⟨pk, 0, none⟩ = some (.slice ao R.length c)
  e1 : w.cell? ⟨pk, 1, none⟩ = some (.map (some mb))
  map : SMap w mb (ents R)
  mems : Mems w R
  names : LAt 1 TextR w ao c (R.reverse.map fun m => m.k.nm)
theorem KinV.below {w w' : World} {pk : Nat} {R : List Mem} {mb : Nat} {ao : Option Addr} {c : Nat} (h : KinV w pk R mb ao c) (hb : Below w.heap.size w w') : KinV w' pk R mb ao c :=
  ⟨(ext_below hb).cell _ _ h.e0, (ext_below hb).cell _ _ h.e1, h.map.kept (hb.block _ h.map.lt), h.mems.ext (ext_below hb), h.names.below hb (fun _ _ h => h)⟩
theorem KinV.look {w : World} {pk : Nat} {R : List Mem} {mb : Nat} {ao : Option Addr} {c : Nat} (h : KinV w pk R mb ao c) (s : ByteArray) :
    (Instr.lookup 54 (.map (some mb)) (.string s) false).run Try.prog w = .ok (ptr (mfind R s)) w := by
  rw [h.map.look Try.underlying54 Try.underlying9 (Try.zeroValue64 w) s, slook_ents s h.mems.apart]
  cases mfind R s <;> rfl

theorem cell_new_l (W : World) (v : Value) (t : TypeId) : (W.alloc (.cells #[v] t)).cell? ⟨W.heap.size, 0, none⟩ = some v ∧ (W.alloc (.cells #[v] t)).frozen? ⟨W.heap.size, 0, none⟩ = false := by
  have h := heap_alloc_new W (.cells #[v] t)
  constructor
  · unfold World.cell?; rw [h]; rfl
  · unfold World.frozen?; rw [h]; simp
theorem cell_older {w : World} {p : Addr} {v : Value} (o : Obj) (h : w.cell? p = some v) : (w.alloc o).cell? p = some v := (ext_below (balloc w o)).cell _ _ h
def subB (R : List Mem) (a b : ByteArray) : Bool := (lin R a).any fun m => m.k.nm.toList == b.toList
theorem own_below {β : Type} {w₀ : World} {B : Nat} (hB : w₀.heap.size ≤ B) : OwnFrom B (fun (_ : β) W => Below w₀.heap.size w₀ W) := ownFrom_below (Nat.le_refl _) hB

set_option maxRecDepth 100000 in
set_option maxHeartbeats 2000000 in
theorem sub_any (w : World) (pk : Nat) (R : List Mem) (mb : Nat) (ao : Option Addr) (c : Nat) (h : KinV w pk R mb ao c) (a b : ByteArray) :
    Calls Try.prog 29 #[.pointer (some ⟨pk, 0, none⟩), .string a, .string b] w fun e w' => e = .returned (.bool (subB R a b)) ∧ Below w.heap.size w w' := by
  refine (callsIn_wide (n := 5)).1 ?_
  have B2 : Below w.heap.size w ((w.alloc (.cells #[.string b] 9)).alloc (.cells #[.bool false] 4)) := ((Below.refl _ w).alloc (Nat.le_refl _) _).alloc (by simp) _
  have h2 := h.below B2
  have hl := h2.look a
  have e1 := h2.e1
  refine callsIn_of_wp_marks Try.func29 rfl trivial ?_ rfl
  simp only [Try.ntmps29, List.size_toArray, List.length_cons, List.length_nil, Nat.reduceAdd, Nat.reduceSub, Array.replicate_succ, Array.replicate_zero, List.push_toArray, List.append_toArray, List.nil_append, List.cons_append]
  gi_wp2
  have hch := h2.mems.chain a
  have cb := cell_new_l w (.string b) 9
  have cr := cell_new_l (w.alloc (.cells #[.string b] 9)) (.bool false) 4
  simp only [World.size_alloc] at cr
  generalize hp : mfind R a = p at hch ⊢
  generalize hW : (w.alloc (.cells #[.string b] 9)).alloc (.cells #[.bool false] 4) = W2 at *
  have hsz : W2.heap.size = w.heap.size + 1 + 1 := by rw [← hW]; simp
  refine wpIn_rangeRecv (α := Mem) (n := 5) rfl (enters_of Try.func45 (by kernel_rfl) rfl) enc (lin R a) (fun W => Below W2.heap.size W2 W) rfl (line_any 4 W2 p (lin R a) hch)
    (fun pre W => ((pre.any fun m => m.k.nm.toList == b.toList) = false ∧ W.cell? ⟨w.heap.size, 0, none⟩ = some (.string b) ∧ W.cell? ⟨w.heap.size + 1, 0, none⟩ = some (.bool false) ∧ W.frozen? ⟨w.heap.size + 1, 0, none⟩ = false) ∧ Below W2.heap.size W2 W)
    (fun pre W => ((∃ q, q ∈ lin R a ∧ (q.k.nm.toList == b.toList) = true) ∧ W.cell? ⟨w.heap.size + 1, 0, none⟩ = some (.bool true)) ∧ Below w.heap.size w W)
    (OwnFrom.and (Own.from (fun s A B row hs hg hr => ⟨hs.1, cell_kept hs.2.1 hg hr, cell_kept hs.2.2.1 hg hr, (frozen_kept hs.2.2.1 hg hr).trans hs.2.2.2⟩) _) (own_below (Nat.le_refl _)))
    (OwnFrom.and (Own.from (fun s A B row hs hg hr => ⟨hs.1, cell_kept hs.2 hg hr⟩) _) (own_below (by omega)))
    (fun _ _ h => h.2) ?start
    (fun x => { tmps := #[.pointer (some ⟨pk, 0, none⟩), .string a, .string b, undef, undef, .pointer (some ⟨w.heap.size, 0, none⟩), .pointer (some ⟨w.heap.size + 1, 0, none⟩), .pointer (some ⟨x.b, 0, none⟩), .pointer (some ⟨pk, 0, none⟩), .pointer (some ⟨pk, 0, none⟩), .pointer (some ⟨pk, 1, none⟩), .map (some mb), .string a, ptr p, .func (.func 45) #[ptr p] #[], .pointer (some ⟨x.b, 0, none⟩), undef, undef, undef, undef, undef, undef, undef], defers := [] })
    ?assign ?body ?done ?stop
  case start =>
    subst hW
    exact ⟨⟨rfl, cell_older _ cb.1, cr.1, cr.2⟩, Below.refl _ _⟩
  case assign =>
    intro l x W K hK
    unfold enc
    gi_wp2
    exact hK
  case body =>
    rintro l pre x rest W hx ⟨⟨hpre, hcb, hcr, hfr⟩, hB⟩
    obtain ⟨ab, hm⟩ := (hch.ext (ext_below hB)).at x (by rw [hx]; simp)
    obtain ⟨_, _, _, _, _, _, hm⟩ := hm
    have hn := hm.e0
    clear hm
    have yes : (x.k.nm.toList == b.toList) = true → ∀ a', roundEnd (fun pre W => ((pre.any fun m => m.k.nm.toList == b.toList) = false ∧ W.cell? ⟨w.heap.size, 0, none⟩ = some (.string b) ∧ W.cell? ⟨w.heap.size + 1, 0, none⟩ = some (.bool false) ∧ W.frozen? ⟨w.heap.size + 1, 0, none⟩ = false) ∧ Below W2.heap.size W2 W)
      (fun pre W => ((∃ q, q ∈ lin R a ∧ (q.k.nm.toList == b.toList) = true) ∧ W.cell? ⟨w.heap.size + 1, 0, none⟩ = some (.bool true)) ∧ Below w.heap.size w W) (pre ++ [x]) W .ret a' (W.setCell ⟨w.heap.size + 1, 0, none⟩ (.bool true)).drew := fun hxb a' =>
      ⟨(KeepsOthers.setCell _ _ _).trans (KeepsOthers.drew _), ⟨⟨x, by rw [hx]; simp, hxb⟩, World.cell?_setCell_same' W _ _ (by rw [hcr]; rfl)⟩, ((B2.trans (hB.mono (by omega))).setCell (p := ⟨w.heap.size + 1, 0, none⟩) (by simp) _).drew⟩
    have no : (x.k.nm.toList == b.toList) = false → ∀ a', roundEnd (fun pre W => ((pre.any fun m => m.k.nm.toList == b.toList) = false ∧ W.cell? ⟨w.heap.size, 0, none⟩ = some (.string b) ∧ W.cell? ⟨w.heap.size + 1, 0, none⟩ = some (.bool false) ∧ W.frozen? ⟨w.heap.size + 1, 0, none⟩ = false) ∧ Below W2.heap.size W2 W)
      (fun pre W => ((∃ q, q ∈ lin R a ∧ (q.k.nm.toList == b.toList) = true) ∧ W.cell? ⟨w.heap.size + 1, 0, none⟩ = some (.bool true)) ∧ Below w.heap.size w W) (pre ++ [x]) W .normal a' W.drew := fun hxb a' =>
      ⟨KeepsOthers.drew _, ⟨by simp [hpre, hxb], hcb, hcr, hfr⟩, hB.drew⟩
    cases hxb : x.k.nm.toList == b.toList
    · gi_wp2
      gi_region
      all_goals gi_wp2
      all_goals exact no hxb _
    · gi_wp2
      gi_region
      all_goals gi_wp2
      all_goals exact yes hxb _
  case done =>
    rintro D W hD ⟨⟨hpre, hcb, hcr, hfr⟩, hB⟩ hK
    gi_wp2
    have hK' := (KeepsOthers.setCell W ⟨w.heap.size + 1, 0, none⟩ (.bool false)).same D _ hK rfl
    refine ⟨by simp, .inl ⟨_, _, rfl, run_takeDeferred hK', ?_⟩⟩
    have hc5 := cell_kept (World.cell?_setCell_same' W ⟨w.heap.size + 1, 0, none⟩ (.bool false) (by rw [hcr]; rfl)) (grownBy_putObj' _ D (.deferred none)) (fun r e => by cases e; exact ⟨_, hK', rfl⟩)
    refine ⟨.bool false, ?_, by unfold subB; rw [hpre], (((B2.trans (hB.mono (by omega))).setCell (p := ⟨w.heap.size + 1, 0, none⟩) (by simp) _).trans (belowK_b (w := w) (Nat.le_refl _) _ D _ _ (by omega) hK' rfl rfl))⟩
    simp [results, Try.f29, go_sem, hc5]
  case stop =>
    rintro D pre W hD ⟨⟨⟨q, hq, hqb⟩, hcr⟩, hB⟩ hK
    gi_wp2
    refine ⟨by simp, .inl ⟨_, _, rfl, run_takeDeferred hK, ?_⟩⟩
    have hc5 := cell_kept hcr (grownBy_putObj' _ D (.deferred none)) (fun r e => by cases e; exact ⟨_, hK, rfl⟩)
    refine ⟨.bool true, ?_, ?_, hB.trans (belowK_b (w := w) (Nat.le_refl _) W D _ _ (by omega) hK rfl rfl)⟩
    · simp [results, Try.f29, go_sem, hc5]
    · unfold subB
      rw [List.any_eq_true.2 ⟨q, hq, hqb⟩]
end Go.Proofs.Ytknppdpcgdncdaa.K
