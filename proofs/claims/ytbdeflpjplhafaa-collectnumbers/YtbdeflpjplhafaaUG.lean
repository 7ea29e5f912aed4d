/- Set of the document's own heap: walked. -/
import Derived.Test.YtbdeflpjplhafaaUF
namespace Go.Proofs.Ytbdeflpjplhafaa.J
open Go.RowKit Go.MapKept Go.ChangeMaps
set_option linter.unusedVariables false

variable {n0 : Nat} {w : World} {R : RB} {most : Nat} {l : List Ob} {ss : List (List Bool)}
theorem RV.drewN (h : RV n0 w R most l ss) (q : Nat) : RV n0 (w.drewN q) R most l ss := h.kept fun _ _ => rfl
set_option maxRecDepth 8000 in
theorem uset_no (h : RV n0 w R most l ss) (v n x : Int) (hn : hasZ l v n = false) : Calls Try.prog 30 #[R.ptr, .int .i64 v, .int .i64 n, .int .i64 x] w fun e w' => e = .returned (.int .i64 1) ∧ w' = w := by
  cases e : objZ l v with
  | none =>
    have G := hidIt (ufind_none h v e)
    unfold RB.ptr at G ⊢
    clear h e hn
    go_enter Try.func30, Try.ntmps30
    go_wp2_with (go_at_call 47; refine G.out.mono ?_; rintro e w' ⟨rfl, hww⟩; cases hww)
    go_ret
    exact ⟨rfl, rfl⟩
  | some o =>
    have hn2 : ¬ (0 ≤ n ∧ n < (o.f.length : Int)) := fun ⟨a, b⟩ => by rw [hasZ_of e a b] at hn; cases hn
    obtain ⟨i, hi, rfl⟩ := objZ_idx e
    obtain ⟨g, cap, u, el, hu, c0, c1, c2, c3, -⟩ := h.obj hi
    have G := hidIt (ufind_some h hi el)
    obtain ⟨uo, uc, eu⟩ := own_slice (h.fo i u o hu hi)
    subst eu
    unfold RB.ptr at G ⊢
    clear h e hu el hi c0 c1 c3 hn
    generalize (usedN (l.take i) : Int) + 1 = v at *
    generalize o.f.length = N at *
    by_cases h0 : n < 0
    · go_enter Try.func30, Try.ntmps30
      go_wp2_with (go_at_call 47; refine G.out.mono ?_; rintro e w' ⟨rfl, hww⟩; cases hww)
      go_ret
      exact ⟨rfl, rfl⟩
    · have h1 : (N : Int) ≤ n := by omega
      clear hn2
      go_enter Try.func30, Try.ntmps30
      go_wp2_with (go_at_call 47; refine G.out.mono ?_; rintro e w' ⟨rfl, hww⟩; cases hww)
      go_ret
      exact ⟨rfl, rfl⟩
set_option maxRecDepth 8000 in
set_option maxHeartbeats 2000000 in
theorem uset_type (h : RV n0 w R most l ss) (v n x : Int) (hn : hasZ l v n = true) (hf : fitZ ss l v n x = false) : Calls Try.prog 30 #[R.ptr, .int .i64 v, .int .i64 n, .int .i64 x] w fun e w' => e = .returned (.int .i64 20) ∧ ∃ q, w' = w.drewN q := by
  have GI := hidIt (uisref_yes h v n hn)
  unfold fitZ at hf
  simp only [Bool.or_eq_false_iff, Bool.not_eq_false'] at hf
  obtain ⟨⟨f1, f2⟩, f3⟩ := hf
  have f3' : objZ l x = none := by cases e : objZ l x with
    | none => rfl
    | some o => rw [e] at f3; cases f3
  have f2' : (x != 0) = true := by simpa using f2
  have f2'' : ¬ x = 0 := by simpa using f2
  have GN := hidIt (fun q => ufind_none (h.drewN q) x f3')
  rw [f1] at GI
  obtain ⟨i, k, o, g, cap, fb, uc, hi, hv, rfl, hk, el, hu, c1, c2, -, -, hfl⟩ := h.field hn
  have G := hidIt (ufind_some h hi el)
  rw [← hv] at G
  have hk' : (k : Int) < (o.f.length : Int) := by omega
  have hk2 : ¬ (o.f.length : Int) ≤ (k : Int) := by omega
  unfold RB.ptr at G GI GN ⊢
  clear h hv hu el hi c1 hn f1 f2 f3 f3' hk
  generalize o.f.length = N at *
  by_cases h0 : x < 0
  · clear GN
    go_enter Try.func30, Try.ntmps30
    go_wp2_with (first | (go_at_call 47; refine G.out.mono ?_; rintro e w' ⟨rfl, hww⟩; cases hww) | (go_at_call 28; refine GI.out.mono ?_; rintro e w' ⟨rfl, q, rfl⟩))
    go_ret
    exact ⟨rfl, q, rfl⟩
  · by_cases h1 : 16384 < x
    · clear GN
      go_enter Try.func30, Try.ntmps30
      go_wp2_with (first | (go_at_call 47; refine G.out.mono ?_; rintro e w' ⟨rfl, hww⟩; cases hww) | (go_at_call 28; refine GI.out.mono ?_; rintro e w' ⟨rfl, q, rfl⟩))
      go_ret
      exact ⟨rfl, q, rfl⟩
    · go_enter Try.func30, Try.ntmps30
      go_wp2_with (first | (go_at_call 47; refine G.out.mono ?_; rintro e w' ⟨rfl, hww⟩; cases hww; clear G) | (go_at_call 28; refine GI.out.mono ?_; rintro e w' ⟨rfl, q, rfl⟩; clear GI) | (go_at_call 47; refine (GN.out q).mono ?_; rintro e w' ⟨rfl, hww⟩; cases hww))
      go_ret
      exact ⟨rfl, q, rfl⟩
set_option maxRecDepth 8000 in
set_option maxHeartbeats 4000000 in
theorem uset_yes (h : RV n0 w R most l ss) (v n x : Int) (hn : hasZ l v n = true) (hf : fitZ ss l v n x = true) : Calls Try.prog 30 #[R.ptr, .int .i64 v, .int .i64 n, .int .i64 x] w fun e w' => e = .returned (.int .i64 0) ∧ RV n0 w' R most (setL l v n x) ss ∧ RStep R R w w' := by
  have GI := hidIt (uisref_yes h v n hn)
  unfold fitZ at hf
  have HH := hidIt h
  obtain ⟨i, k, o, g, cap, fb, uc, hi, hv, rfl, hk, el, hu, c1, c2, hc, hz, hfl⟩ := h.field hn
  have G := hidIt (ufind_some h hi el)
  rw [← hv] at G
  have FIN : Hid (∀ q, RV n0 ((w.drewN q).setCell ⟨fb, k, none⟩ (.int .i64 x)) R most (setL l v (k : Int) x) ss ∧ RStep R R w ((w.drewN q).setCell ⟨fb, k, none⟩ (.int .i64 x))) := hidIt (fun q => by
    obtain ⟨a, b⟩ := (h.drewN q).setF (k := k) hi hu x
    rw [← hv] at a
    exact ⟨a, ⟨b.os, b.tape, b.output, b.size, b.block, b.rb, b.moved⟩⟩)
  have hk' : (k : Int) < (o.f.length : Int) := by omega
  have hk2 : ¬ (o.f.length : Int) ≤ (k : Int) := by omega
  have c2q : ∀ q, (w.drewN q).cell? ⟨g, i * 4 + 2, none⟩ = some (.slice (some ⟨fb, 0, none⟩) o.f.length uc) := fun q => c2
  have HC2 := hidIt c2q
  have HCC := hidIt hc
  have HZZ := hidIt hz
  unfold RB.ptr at G GI ⊢
  clear h hv hu el hi c1 hn c2q
  generalize o.f.length = N at *
  generalize getZ l v (k : Int) = y at *
  generalize setL l v (k : Int) x = l' at *
  cases f1 : refZ ss l v (k : Int) with
  | false =>
    rw [f1] at GI
    clear hf f1 HH hc hz
    go_enter Try.func30, Try.ntmps30
    go_wp2_with (first | (go_at_call 47; refine G.out.mono ?_; rintro e w' ⟨rfl, hww⟩; cases hww; clear G) | (go_at_call 28; refine GI.out.mono ?_; rintro e w' ⟨rfl, q, rfl⟩; clear GI; have c5 := HC2.out q; have hc : (w.drewN q).cell? ⟨fb, k, none⟩ = some (.int .i64 y) := HCC.out; have hz : (w.drewN q).frozen? ⟨fb, k, none⟩ = false := HZZ.out))
    go_ret
    exact ⟨rfl, FIN.out q⟩
  | true =>
    rw [f1] at GI hf
    clear f1 hc hz
    by_cases f2 : x = 0
    · subst f2
      clear hf HH
      go_enter Try.func30, Try.ntmps30
      go_wp2_with (first | (go_at_call 47; refine G.out.mono ?_; rintro e w' ⟨rfl, hww⟩; cases hww; clear G) | (go_at_call 28; refine GI.out.mono ?_; rintro e w' ⟨rfl, q, rfl⟩; clear GI; have c5 := HC2.out q; have hc : (w.drewN q).cell? ⟨fb, k, none⟩ = some (.int .i64 y) := HCC.out; have hz : (w.drewN q).frozen? ⟨fb, k, none⟩ = false := HZZ.out))
      go_ret
      exact ⟨rfl, FIN.out q⟩
    · have f3 : (objZ l x).isSome = true := by simpa [f2] using hf
      obtain ⟨ox, hox⟩ := Option.isSome_iff_exists.1 f3
      have hxb := objZ_in hox
      have hm := HH.out.few
      have hm2 := HH.out.most
      have h0 : ¬ x < 0 := by omega
      have h1 : ¬ 16384 < x := by omega
      obtain ⟨j, hj, ej⟩ := objZ_idx hox
      obtain ⟨g', cap', u', el', -⟩ := HH.out.obj hj
      have GX : Hid (∀ q, Calls Try.prog 47 #[.pointer (some ⟨R.rb, 0, none⟩), .int .i64 x] (w.drewN q) fun e w' => e = .returned (.pointer (some ⟨g', j * 4, none⟩)) ∧ w' = w.drewN q) := hidIt (fun q => by rw [ej]; exact ufind_some (HH.out.drewN q) hj el')
      have f2' : (x != 0) = true := by simpa using f2
      clear hf HH f3 hox hxb hj ej el' hm hm2
      go_enter Try.func30, Try.ntmps30
      go_wp2_with (first | (go_at_call 47; refine G.out.mono ?_; rintro e w' ⟨rfl, hww⟩; cases hww; clear G) | (go_at_call 28; refine GI.out.mono ?_; rintro e w' ⟨rfl, q, rfl⟩; clear GI; have c5 := HC2.out q; have hc : (w.drewN q).cell? ⟨fb, k, none⟩ = some (.int .i64 y) := HCC.out; have hz : (w.drewN q).frozen? ⟨fb, k, none⟩ = false := HZZ.out) | (go_at_call 47; refine (GX.out q).mono ?_; rintro e w' ⟨rfl, hww⟩; cases hww))
      go_ret
      exact ⟨rfl, FIN.out q⟩
end Go.Proofs.Ytbdeflpjplhafaa.J

