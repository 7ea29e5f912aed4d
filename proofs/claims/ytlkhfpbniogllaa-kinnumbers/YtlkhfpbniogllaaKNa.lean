/- The document's own Kin: native, Troubles, Names, Get. -/
import Derived.Test.YtlkhfpbniogllaaKX
import Derived.Test.YtlkhfpbniogllaaKK
namespace Go.Proofs.Ytlkhfpbniogllaa.K
open Go.RowKit Q Q.D

def CR (w : World) (r : List Value) (k : KD) : Prop := ClassV w (.agg r.toArray) k
structure RV (w : World) (pk : Nat) (ks : List KD) (ao : Option Addr) (c : Nat) : Prop where
  lt : pk < w.heap.size
  box : w.cell? ⟨pk, 0, none⟩ = some (.slice ao ks.length c)
  l : LAt 5 CR w ao c ks
theorem RV.below {w w' : World} {pk : Nat} {ks : List KD} {ao : Option Addr} {c : Nat} (h : RV w pk ks ao c) (hb : Below w.heap.size w w') : RV w' pk ks ao c :=
  ⟨Nat.lt_of_lt_of_le h.lt hb.size, (ext_below hb).cell _ _ h.box, h.l.below hb (fun _ _ h => ClassV.below hb h)⟩

set_option maxRecDepth 8000 in
set_option maxHeartbeats 1000000 in
theorem rnat_any (n d : ByteArray) (s : Bool) (w : World) : Calls Try.prog 23 #[.string n, .string d, .bool s] w fun e w' => e = .returned (.agg #[.string n, .string d, .bool s, .bool true, .int .i64 0, .int .i64 0, .slice none 0 0, .slice none 0 0, .slice none 0 0]) ∧ Below w.heap.size w w' := by
  have B1 := balloc w (.cells #[.string n, .string d, .bool s, .bool true, .int .i64 0, .int .i64 0, .slice none 0 0, .slice none 0 0, .slice none 0 0] 43)
  go_enter Try.func23, Try.ntmps23
  go_wp2
  go_returns
  exact ⟨rfl, B1⟩

set_option maxRecDepth 8000 in
set_option maxHeartbeats 1000000 in
theorem rtroubles_any (w : World) : Calls Try.prog 24 #[] w fun e w' => e = .returned (.slice (some ⟨w.heap.size, 0, none⟩) 9 9) ∧ w' = w.alloc (.cells (troubles.map Value.string).toArray 9) := by
  go_enter Try.func24, Try.ntmps24
  go_wp2
  go_returns
  exact ⟨rfl, rfl⟩

set_option maxRecDepth 8000 in
set_option maxHeartbeats 1000000 in
theorem rget_any (w : World) (pk : Nat) (ks : List KD) (ao : Option Addr) (c : Nat) (h : RV w pk ks ao c) (s : ByteArray) (m : Nat) (k : KD) (hk : ks[m]? = some k) (hs : k.nm = s) (hne : ∀ j x, j < m → ks[j]? = some x → (x.nm.toList == s.toList) = false) :
    Calls Try.prog 12 #[.pointer (some ⟨pk, 0, none⟩), .string s] w fun e w' => Below w.heap.size w w' ∧ ∃ v', e = .returned (.tuple #[v', .bool true]) ∧ ClassV w' v' k := by
  have hbig := h.l.big
  have hml : m < ks.length := (List.getElem?_eq_some_iff.1 hk).1
  have B1 := balloc w (.cells #[.string ⟨#[]⟩, .string ⟨#[]⟩, .slice none 0 0, .slice none 0 0, .slice none 0 0] 33)
  have h1 := D.hidIt h
  have Y1 := Blk.new w #[.string ⟨#[]⟩, .string ⟨#[]⟩, .slice none 0 0, .slice none 0 0, .slice none 0 0] 33
  have HN := D.hidIt hne
  generalize hn : ks.length = n at *
  have HNn := D.hidIt hn
  clear h hne hn
  go_enter Try.func12, Try.ntmps12
  go_wp2
  generalize w.alloc (.cells #[.string ⟨#[]⟩, .string ⟨#[]⟩, .slice none 0 0, .slice none 0 0, .slice none 0 0] 33) = X at *
  go_loopw [6] (fun iv wr => ∃ i : Nat, iv = .int .i64 (i : Int) ∧ i ≤ m ∧ Hid (Below X.heap.size X wr)) (fun iv _ => n - (intOf iv).toNat)
  case atStart => exact ⟨0, rfl, Nat.zero_le _, Below.refl _ _⟩
  case round =>
    obtain ⟨i, rfl, hi, HB⟩ := hrel
    have Bw := D.hidIt (next B1 HB.out)
    have bx := (h1.out.below Bw.out).box
    rw [HNn.out] at bx
    have hlt' : (i : Int) < (n : Int) := by omega
    obtain ⟨x, hx⟩ : ∃ x, ks[i]? = some x := ⟨_, List.getElem?_eq_getElem (by rw [HNn.out]; omega)⟩
    obtain ⟨b, off, r, rfl, hR, hc⟩ := h1.out.l.row hx
    obtain ⟨o1, c1, o2, c2, o3, c3, hv, s1, s2, k1, k2, k3⟩ := id hR
    obtain rfl : r = [.string x.nm, .string x.sup, .slice o1 x.pool.length c1, .slice o2 x.fs.length c2, .slice o3 x.ms.length c3] := by
      simpa using congrArg (fun v => match v with | .agg a => a.toList | _ => []) hv
    have E := ext_below Bw.out
    have z0 := E.cell _ _ (hc 0 _ rfl)
    have z1 := E.cell _ _ (hc 1 _ rfl)
    have z2 := E.cell _ _ (hc 2 _ rfl)
    have z3 := E.cell _ _ (hc 3 _ rfl)
    have z4 := E.cell _ _ (hc 4 _ rfl)
    rw [Nat.add_zero] at z0
    have HR := D.hidIt hR
    have Y2 : Blk wr w.heap.size #[.string ⟨#[]⟩, .string ⟨#[]⟩, .slice none 0 0, .slice none 0 0, .slice none 0 0] 33 := Y1.below HB.out
    clear hc hv hR k1 k2 k3 E
    by_cases he : i = m
    · subst he
      rw [hk] at hx
      cases hx
      subst hs
      go_wp2_with (refine wpList_store_row rfl 33 _ _ rfl w.heap.size #[.string k.nm, .string k.sup, .slice o1 k.pool.length c1, .slice o2 k.fs.length c2, .slice o3 k.ms.length c3] rfl rfl 33 _ Y2 (by kernel_rfl) rfl (by simp [Value.oneCell']) ?_)
      refine bodyPost_ret (results_rowb rfl _ _ w.heap.size 33 _ (0, 0) _ rfl (setRow_heap _ _ _ _ _ _ Y2) Try.underlying33 rfl (by kernel_rfl)) rfl ?_
      have B3 := below_row Bw.out (Nat.le_refl _) #[.string k.nm, .string k.sup, .slice o1 k.pool.length c1, .slice o2 k.fs.length c2, .slice o3 k.ms.length c3]
      exact ⟨B3, _, rfl, ClassV.below B3 HR.out⟩
    · have hq := HN.out i x (by omega) hx
      clear hk hs
      go_wp2
      go_roundw
      case rel => exact ⟨i + 1, by go_num, by omega, HB⟩
      case measure => simp [intOf]; omega

set_option maxRecDepth 8000 in
set_option maxHeartbeats 1000000 in
theorem rnames_any (w : World) (pk : Nat) (ks : List KD) (ao : Option Addr) (c : Nat) (h : RV w pk ks ao c) (hks : ks.length ≤ 1000) :
    Calls Try.prog 10 #[.pointer (some ⟨pk, 0, none⟩)] w fun e w' => Below w.heap.size w w' ∧ ∃ v', e = .returned v' ∧ w'.ownsRow w.heap.size 9 1 v' ks.length (ks.map fun k => .string k.nm) := by
  obtain ⟨i0, hi0, hz0, hz1, hz2⟩ := info_parts Try.info9k
  have h1 := D.hidIt h
  generalize hn : ks.length = n at *
  have HNn := D.hidIt hn
  clear h hn
  go_enter Try.func10, Try.ntmps10
  go_wp2
  go_loopw [3, 4] (fun lv iv wr => ∃ i : Nat, iv = .int .i64 (i : Int) ∧ i ≤ n ∧ Below w.heap.size w wr ∧ wr.ownsRow w.heap.size 9 1 lv i ((ks.take i).map fun k => .string k.nm)) (fun _ iv _ => n - (intOf iv).toNat)
  case atStart => exact ⟨0, rfl, Nat.zero_le _, Below.refl _ _, World.ownsRow_nil _ _ _ _⟩
  case round =>
    obtain ⟨i, rfl, hi, B, ho⟩ := hrel
    have bx := (h1.out.below B).box
    rw [HNn.out] at bx
    by_cases hlt : i < n
    · have hlt' : (i : Int) < (n : Int) := by omega
      obtain ⟨x, hx⟩ : ∃ x, ks[i]? = some x := ⟨_, List.getElem?_eq_getElem (by rw [HNn.out]; omega)⟩
      obtain ⟨b, off, r, rfl, hR, hc⟩ := h1.out.l.row hx
      obtain ⟨o1, c1, o2, c2, o3, c3, hv, s1, s2, k1, k2, k3⟩ := hR
      obtain rfl : r = [.string x.nm, .string x.sup, .slice o1 x.pool.length c1, .slice o2 x.fs.length c2, .slice o3 x.ms.length c3] := by
        simpa using congrArg (fun v => match v with | .agg a => a.toList | _ => []) hv
      have z0 := (ext_below B).cell _ _ (hc 0 _ rfl)
      rw [Nat.add_zero] at z0
      clear hc hv k1 k2 k3
      have o2' := ho.alloc (.cells #[.string x.nm] 9)
      have B2 : Below w.heap.size w (wr.alloc (.cells #[.string x.nm] 9)) := next B (balloc _ _)
      have hsW := B2.size
      have hnews : ∀ j u, ([.string x.nm] : List Value)[j]? = some u → (wr.alloc (.cells #[.string x.nm] 9)).cell? ((⟨wr.heap.size, 0, none⟩ : Addr).add j) = some u := fun j u hj => by
        rw [Addr.add_lit, Nat.zero_add, (Blk.new wr #[.string x.nm] 9).cell j]
        rw [← hj]; exact List.getElem?_toArray
      have HO := D.hidIt o2'
      clear o2' ho
      go_wp2_with (at_builtin; refine wpList_append_own_at _ rfl _ _ 27 rfl w.heap.size 9 i0 (.string ⟨#[]⟩) 1 16 Try.underlying27 hi0 hz0 hz1 hz2 rfl (by decide) _ _ _ rfl HO.out _ 1 1 [.string x.nm] rfl rfl hnews (by intro u hu; simp at hu; subst hu; rfl) (by unfold maxLen; omega) (by omega) hsW ?_; intro v1 w2 ho1 hg1 _ hat1)
      go_roundw
      case rel =>
        refine ⟨i + 1, by go_num, by omega, B2.grown hg1 (Nat.le_trans B2.size (Nat.le_refl _)) (fun k hk' => (HO.out.lt k hk').1), ?_⟩
        rw [List.take_add_one, hx, List.map_append]
        exact ho1
      case measure => simp [intOf]; omega
    · have hlt' : ¬ (i : Int) < (n : Int) := by omega
      obtain rfl : i = n := by omega
      go_wp2
      go_ret
      rw [List.take_of_length_le (by rw [HNn.out]; omega)] at ho
      exact ⟨B, _, rfl, ho⟩
end Go.Proofs.Ytlkhfpbniogllaa.K
