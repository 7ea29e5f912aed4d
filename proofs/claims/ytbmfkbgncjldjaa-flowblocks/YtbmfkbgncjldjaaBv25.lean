/- Texts FCo FI FX. -/
import Derived.Test.YtbmfkbgncjldjaaBv04
import Derived.Test.YtbmfkbgncjldjaaBv23
import Derived.Test.YtbmfkbgncjldjaaBv24
import Derived.Test.YtbmfkbgncjldjaaBv03
import Derived.Deep.CutRange
import Derived.Test.YtbmfkbgncjldjaaBv11
import Derived.Deep.RegionHeld3
namespace Go.Proofs.Ytbmfkbgncjldjaa
open Go.RowKit

theorem inst_pl (p op : Int) (t : List Int) : (inst p op t).pl = p := by
  unfold inst
  split <;> rfl
theorem dec_pl (b : List Int) (hb : b.length ≤ 1024) : ∀ (f p : Nat) (acc : List IN), (∀ x ∈ acc, 0 ≤ x.pl ∧ x.pl ≤ 1024) → ∀ x ∈ (decL5 b f p acc).1, 0 ≤ x.pl ∧ x.pl ≤ 1024
  | 0, p, acc, h => h
  | f + 1, p, acc, h => by
    unfold decL5
    split
    · exact h
    · rename_i op t hd
      have hp : p < b.length := by
        apply Nat.lt_of_not_le
        intro hle
        rw [List.drop_eq_nil_of_le hle] at hd
        cases hd
      split
      · exact fun x hx => by simp at hx
      · split
        · exact fun x hx => by simp at hx
        · refine dec_pl b hb f (p + sz op) (acc ++ [inst p op t]) ?_
          intro x hx
          rcases List.mem_append.1 hx with hx | hx
          · exact h x hx
          · simp at hx
            subst hx
            rw [inst_pl]
            omega
theorem dec_len (b : List Int) : ∀ (f p : Nat) (acc : List IN), (decL5 b f p acc).1.length ≤ acc.length + f
  | 0, p, acc => by unfold decL5; exact Nat.le_refl _
  | f + 1, p, acc => by
    unfold decL5
    split
    · exact Nat.le_add_right _ _
    · rename_i op t hd
      split
      · exact Nat.zero_le _
      · split
        · exact Nat.zero_le _
        · have := dec_len b f (p + sz op) (acc ++ [inst p op t])
          rw [List.length_append] at this
          simp at this
          omega
theorem decZ_small (b : List Int) : Places (decZ5 b).1 ∧ (decZ5 b).1.length ≤ 1024 := by
  unfold decZ5
  split
  · exact ⟨fun x hx => by simp at hx, Nat.zero_le _⟩
  · rename_i h
    refine ⟨fun x hx => ?_, ?_⟩
    · have := dec_pl b (by omega) b.length 0 [] (fun x hx => by simp at hx) x hx
      omega
    · have := dec_len b b.length 0 []
      simp at this
      omega
theorem fra_len (ts : List Int) : ∀ (ls : List M.LN) (p : Int) (fs : List (Int × Bool)), (M.fra ts ls p fs).length ≤ fs.length + ls.length
  | [], _, _ => Nat.le_refl _
  | x :: r, p, fs => by
    rw [M.fra_cons]
    simp only [List.length_cons]
    split
    · refine Nat.le_trans (fra_len ts r p _) ?_
      split
      · omega
      · rw [List.length_append]; simp; omega
    · have := fra_len ts r (p + (sz x.op : Nat)) fs
      omega
theorem frames_len {k : M.BK} {pool : List P3.CD} {σ : M.SG} (h : M.BodyIs k pool σ) (hp : pool.length ≤ 256) : (M.framesZ σ).length ≤ 1000 := by
  have h1 := M.body_made h hp
  have h2 := M.heres_ins σ
  have h3 := h1.lab
  have h4 := h1.her
  have h5 := h1.ins
  have := fra_len σ.ts σ.ls 0 []
  unfold M.framesZ
  simp at this
  omega
def toFN (y : M.FM) : FN := match y.lc, y.st with
  | .slice a n c, .slice a2 n2 c2 => ⟨y.at_, a, n, c, a2, n2, c2⟩
  | _, _ => ⟨y.at_, none, 0, 0, none, 0, 0⟩
theorem fr_slices {pl : Bool} {w : World} {y : M.FM} {z : Int × Bool} (h : M.FR1 pl w y z) : frow (toFN y) = M.frow y := by
  obtain ⟨z1, z2⟩ := z
  obtain ⟨h1, ⟨g, h2, h3⟩, h4⟩ := h
  cases z2
  · have h4' : y.st = .slice none 0 0 := h4
    unfold toFN M.frow frow
    rw [h2, h4']
  · obtain ⟨g2, h5, h6⟩ := h4
    unfold toFN M.frow frow
    rw [h2, h5]
theorem frames_view {pl : Bool} {w : World} {b : Nat} {v : Value} {fs : List M.FM} {zs : List (Int × Bool)} (h : w.ownsRow b 84 3 v fs.length (M.fcells fs)) (hz : M.FRs pl w fs zs) : FView w v (fs.map toFN) := by
  refine GView.f (GView.of_own (T := 84) (B := b) (fun _ => rfl) ?_)
  have e : (fs.map toFN).flatMap frow = M.fcells fs := by
    unfold M.fcells
    have H : ∀ y ∈ fs, frow (toFN y) = M.frow y := fun y hy => by
      obtain ⟨j, hj⟩ := List.getElem?_of_mem hy
      have hlt := (List.getElem?_eq_some_iff.1 hj).1
      obtain ⟨z, hzz⟩ : ∃ z, zs[j]? = some z := ⟨_, List.getElem?_eq_getElem (by rw [← hz.1]; exact hlt)⟩
      exact fr_slices (hz.2 j y z hj hzz)
    clear h hz
    induction fs with
    | nil => rfl
    | cons y r ih => rw [List.map_cons, List.flatMap_cons, List.flatMap_cons, H y (by simp), ih (fun z hz => H z (by simp [hz]))]
  rw [e, List.length_map]
  exact h
theorem code_view {w : World} {b : Nat} {v : Value} {l : List IN} (h : w.ownsRow b 5 1 v (encL l []).1.length (bcells (encL l []).1)) : View w v (encL l []).1 := by
  have hb := enc_bytes l [] (fun x hx => by simp at hx)
  rcases h.2 with ⟨rfl, h0⟩ | ⟨g, cap, cur, rfl, hB, hg, k1, k2, _⟩
  · exact ⟨none, 0, by rw [h0], by rw [h0]; exact Nat.le_refl _, by unfold maxLen; omega, hb, .inl (List.length_eq_zero_iff.1 h0)⟩
  · refine ⟨_, cap, rfl, k1, k2, hb, .inr ⟨g, 0, rfl, fun j x hj => ?_⟩⟩
    have := h.cells (g := g) rfl j (.int .u8 x) (by unfold bcells; rw [List.getElem?_map, hj]; rfl)
    have e : (⟨g, 0, none⟩ : Addr).add j = ⟨g, 0 + j, none⟩ := by unfold Addr.add; split <;> simp_all
    rw [e] at this
    exact this
theorem main_parts {w w' : World} {e : Ending} (h : M.ClassesQ w e w') : ∃ (g gm cm : Nat) (vc vh vf : Value) (cl : List IN) (hl : List HN) (fl : List FN) (s0 s1 : ByteArray) (b0 : Bool) (n0 : Int), e = .returned (.slice (some ⟨g, 0, none⟩) 4 4) ∧ Below w.heap.size w w' ∧ w'.cell? ⟨g, 19, none⟩ = some (.slice (some ⟨gm, 0, none⟩) 2 cm) ∧ 2 ≤ cm ∧ cm ≤ 9223372036854775807 ∧
    (w'.cell? ⟨gm, 0, none⟩ = some (.string s0) ∧ w'.cell? ⟨gm, 1, none⟩ = some (.string s1) ∧ w'.cell? ⟨gm, 2, none⟩ = some (.bool b0) ∧ w'.cell? ⟨gm, 3, none⟩ = some (.bool false) ∧ w'.cell? ⟨gm, 4, none⟩ = some (.int .i64 16) ∧ w'.cell? ⟨gm, 5, none⟩ = some (.int .i64 n0) ∧ w'.cell? ⟨gm, 6, none⟩ = some vc ∧ w'.cell? ⟨gm, 7, none⟩ = some vh ∧ w'.cell? ⟨gm, 8, none⟩ = some vf) ∧
    View w' vc (encL cl []).1 ∧ HView w' vh hl ∧ FView w' vf fl ∧ hl.length ≤ 54 ∧ fl.length ≤ 1000 := by
  obtain ⟨g, cA, cB, cT, cC, σa, ob, σt, σm, σc, his, he, hg, hrow, hb, hA, hB, hT, hC⟩ := h
  obtain ⟨pA, fA, mA, rfl, _⟩ := hA
  obtain ⟨pB, fB, mB, rfl, _⟩ := hB
  obtain ⟨pT, fT, mT, rfl, _⟩ := hT
  obtain ⟨pC, fC, mC, rfl, _, _, rows, hrl, hown, hms⟩ := hC
  obtain ⟨r0, rs, rfl⟩ : ∃ r0 rs, rows = r0 :: rs := by
    cases rows with
    | nil => simp at hrl
    | cons a rs => exact ⟨a, rs, rfl⟩
  have hm0 := hms 0 (.main, σm) r0 rfl rfl
  obtain ⟨vc, vh, vf, fs, rfl, h1, h2, h3, h4⟩ := hm0
  rcases hown.2 with ⟨_, h0⟩ | ⟨gm, cm, cur, hv, _, hgm, k1, k2, _⟩
  · simp at h0
  · have hv' : mC = .slice (some ⟨gm, 0, none⟩) 2 cm := hv
    subst hv'
    have hc : ∀ (i : Nat) (u : Value), (#[Value.string M.BK.main.nm, .string M.BK.main.ds, .bool M.BK.main.st, .bool false, .int .i64 16, .int .i64 ((M.kinds M.BK.main.pl).length : Nat), vc, vh, vf] : Array Value).toList[i]? = some u → w'.cell? ⟨gm, i, none⟩ = some u := fun i u hu => by
      have hi := (List.getElem?_eq_some_iff.1 hu).1
      have := hown.cells (g := gm) rfl i u (by rw [List.flatMap_cons, List.getElem?_append_left hi]; exact hu)
      have e : (⟨gm, 0, none⟩ : Addr).add i = ⟨gm, i, none⟩ := by unfold Addr.add; split <;> simp_all
      rw [e] at this
      exact this
    refine ⟨g, gm, cm, vc, vh, vf, M.codeZ σm, M.handsZ σm, fs.map toFN, _, _, _, _, he, hb, cell_row hrow 19 (by simp), by simpa using k1, by unfold maxLen at k2; exact k2, ⟨hc 0 _ rfl, hc 1 _ rfl, hc 2 _ rfl, hc 3 _ rfl, hc 4 _ rfl, hc 5 _ rfl, hc 6 _ rfl, hc 7 _ rfl, hc 8 _ rfl⟩, code_view h1, GView.h (GView.of_own (T := 76) (fun _ => rfl) h2), frames_view h3 h4, M.body_hands his.m (by decide), ?_⟩
    rw [List.length_map, h4.1]
    exact frames_len his.m (by decide)
theorem NVb {w w' : World} {v : Value} {l : List Int} (h : M.NV w.heap.size w.heap.size w v l) (hb : Below w.heap.size w w') : M.NV w'.heap.size w'.heap.size w' v l := by
  obtain ⟨ao, cap, e, hc, hm, hx, hl⟩ := h
  refine ⟨ao, cap, e, hc, hm, hx, ?_⟩
  rcases hl with h | ⟨g, off, e, h1, h2, hl⟩
  · exact .inl h
  · exact .inr ⟨g, off, e, Nat.lt_of_lt_of_le h1 hb.size, Nat.lt_of_lt_of_le h1 hb.size, fun j x hj => cell_later hb (hl j x hj)⟩
set_option maxRecDepth 8000 in
set_option maxHeartbeats 4000000 in
theorem code_any (vb vr : Value) (b rl : List Int) (w : World) (hb : View w vb b) (hr : M.NV w.heap.size w.heap.size w vr rl) :
    Calls Try.prog 12 #[vb, vr] w fun e w' => ∃ (vl vh vf : Value) (l : List IN) (h : List HN) (fr : List FN), e = .returned (.tuple #[vl, vh, vf]) ∧ IView w' vl l ∧ HView w' vh h ∧ FView w' vf fr ∧ Places l ∧ l.length ≤ 1024 ∧ h.length ≤ 54 ∧ fr.length ≤ 1000 ∧ Below w.heap.size w w' := by
  have GD := hidIt (fun v b W hv => rdecode_any rname5 v b W hv)
  have GD1 := hidIt (rdecode_any rname5 vb b w hb)
  have GC := hidIt (fun W (h : Below w.heap.size w W) => (M.classes_any vr rl W (NVb hr h)).mono fun e w' h => main_parts h)
  have hs := decZ_small b
  obtain ⟨aob, capb, rfl, -⟩ := hb
  obtain ⟨aor, capr, rfl, -⟩ := hr
  generalize decZ5 b = Z at *
  obtain ⟨l1, e1, p1⟩ := Z
  have HS := hidIt hs
  dsimp only at GD1 HS
  clear hs
  go_enter Try.func12, Try.ntmps12
  go_upto_region 2 with (go_at_call 38; refine GD1.out.mono ?_; rintro e w1 ⟨hb1, v1, rfl, ho1⟩; obtain ⟨ao1, cap1, rfl⟩ := own_slice ho1; have HB1 := hidIt hb1; have HO1 := hidIt ho1; clear hb1 ho1 GD1)
  have h3 : (e1 = 0 ∧ 0 < l1.length ∧ b.length < 300) ∨ ¬ e1 = 0 ∨ (e1 = 0 ∧ ¬ 0 < l1.length) ∨ (e1 = 0 ∧ 0 < l1.length ∧ ¬ b.length < 300) := by omega
  rcases h3 with ⟨h1, h2, h3⟩ | h1 | ⟨h1, h2⟩ | ⟨h1, h2, h3⟩
  · subst h1
    have h2' : (0 : Int) < (l1.length : Int) := by omega
    have h3' : (b.length : Int) < 300 := by omega
    go_wp2_with fail
    go_ret3
    exact ⟨_, _, _, l1, [], [], rfl, IView.of_own HO1.out, HView.nil _, FView.nil _, HS.out.1, HS.out.2, by simp, by simp, HB1.out⟩
  case' inr.inl => have h1' : (e1 == 0) = false := by simpa using h1
  case' inr.inr.inl =>
    subst h1
    have h2' : ¬ (0 : Int) < (l1.length : Int) := by omega
  case' inr.inr.inr =>
    subst h1
    have h2' : (0 : Int) < (l1.length : Int) := by omega
    have h3' : ¬ (b.length : Int) < 300 := by omega
  all_goals
    go_upto_region 5 with (go_at_call 39; refine (GC.out _ HB1.out).mono ?_; rintro e w2 ⟨g, gm, cm, vc, vh, vf, cl, hl, fl, s0, s1, b0, n0, rfl, hb2, m19, hcm1, hcm2, ⟨m0, m1, m2, m3, m4, m5, m6, m7, m8⟩, kc, kh, kf, kl1, kl2⟩)
    obtain ⟨a6, c6, rfl⟩ : ∃ a c, vc = .slice a (encL cl []).1.length c := by obtain ⟨a, c, e, _⟩ := kc; exact ⟨a, c, e⟩
    obtain ⟨a7, c7, rfl⟩ : ∃ a c, vh = .slice a hl.length c := by obtain ⟨a, c, e, _⟩ := kh; exact ⟨a, c, e⟩
    obtain ⟨a8, c8, rfl⟩ : ∃ a c, vf = .slice a fl.length c := by obtain ⟨a, c, e, _⟩ := kf; exact ⟨a, c, e⟩
    have HB2 := hidIt (HB1.out.trans (hb2.mono HB1.out.size))
    have KC := hidIt kc
    have KH := hidIt kh
    have KF := hidIt kf
    have KL := hidIt (And.intro kl1 kl2)
    clear hb2 kc kh kf kl1 kl2
    have HA := hidIt (below_alloc w2 (.cells #[.string s0, .string s1, .bool b0, .bool false, .int .i64 16, .int .i64 n0, .slice a6 (encL cl []).1.length c6, .slice a7 hl.length c7, .slice a8 fl.length c8] 73))
    have HX := hidIt (heap_alloc_new w2 (.cells #[.string s0, .string s1, .bool b0, .bool false, .int .i64 16, .int .i64 n0, .slice a6 (encL cl []).1.length c6, .slice a7 hl.length c7, .slice a8 fl.length c8] 73))
    go_upto_region 6 with (fail)
    clear m0 m1 m2 m3 m4 m5 m6 m7 m8 m19
    have HB3 := hidIt (HB2.out.trans (HA.out.mono HB2.out.size))
    have KH2 := hidIt (KH.out.below HA.out)
    have KF2 := hidIt (KF.out.below HA.out)
    have GD2 := hidIt (GD.out _ _ _ (KC.out.below HA.out))
    have hs2 := decZ_small (encL cl []).1
    clear KH KF KC HA
    generalize w2.alloc (.cells #[.string s0, .string s1, .bool b0, .bool false, .int .i64 16, .int .i64 n0, .slice a6 (encL cl []).1.length c6, .slice a7 hl.length c7, .slice a8 fl.length c8] 73) = w3 at *
    have x6 := cell_row HX.out 6 rfl
    generalize decZ5 (encL cl []).1 = Z2 at *
    obtain ⟨l2, e2, p2⟩ := Z2
    dsimp only at GD2 hs2
    have HS2 := hidIt hs2
    clear hs2
    go_upto_region 7 with (go_at_call 38; refine GD2.out.mono ?_; rintro e w4 ⟨hb4, v4, rfl, ho4⟩; obtain ⟨ao4, cap4, rfl⟩ := own_slice ho4; have HB4 := hidIt hb4; have HO4 := hidIt ho4; clear hb4 ho4 GD2 x6)
    have HX4 := hidIt ((HB4.out.block _ (Array.getElem?_eq_some_iff.1 HX.out).1).trans HX.out)
    have x7 := cell_row HX4.out 7 rfl
    have x8 := cell_row HX4.out 8 rfl
    have HB5 := hidIt (HB3.out.trans (HB4.out.mono HB3.out.size))
    go_quiet (fail)
    go_wp2
    go_ret3
    exact ⟨_, _, _, l2, hl, fl, rfl, (IView.of_own HO4.out).drewN nq, KH2.out.below (below_drewN HB4.out nq), KF2.out.below (below_drewN HB4.out nq), HS2.out.1, HS2.out.2, KL.out.1, KL.out.2, below_drewN HB5.out nq⟩
end Go.Proofs.Ytbmfkbgncjldjaa
namespace Go.Proofs.Ytbmfkbgncjldjaa
open Go.RowKit

def brkB (l : List IN) (x : IN) : Bool := decide (kd x.op = 6) && !decide (0 ≤ findZ l x.a)
def codeF (l : List IN) : List IN → Int × Int
  | [] => match l.getLast? with
    | some x => if endsB x.op then (0, 0) else (17, x.pl)
    | none => (17, 0)
  | x :: r => if brkB l x then (16, x.pl) else codeF l r
def codeZ (l : List IN) : Int × Int := if l = [] then (17, 0) else codeF l l
def framF (l : List IN) : Option Int → List FN → Int × Int
  | _, [] => (0, 0)
  | p, f :: r => if findZ l f.p < 0 then (16, f.p) else if (match p with | some q => decide (f.p ≤ q) | none => false) then (21, f.p) else framF l (some f.p) r
def handF (l : List IN) (k : Int × Int) : List HN → Int × Int
  | [] => k
  | x :: r => if handB l x then handF l k r else (16, x.f)
def checkZ (l : List IN) (h : List HN) (fr : List FN) : Int × Int := if (codeZ l).1 ≠ 0 then codeZ l else handF l (framF l none fr) h
theorem codeF_cons (l : List IN) (x : IN) (r : List IN) : codeF l (x :: r) = if brkB l x then (16, x.pl) else codeF l r := rfl
theorem framF_cons (l : List IN) (p : Option Int) (f : FN) (r : List FN) : framF l p (f :: r) = if findZ l f.p < 0 then (16, f.p) else if (match p with | some q => decide (f.p ≤ q) | none => false) then (21, f.p) else framF l (some f.p) r := rfl
theorem handF_cons (l : List IN) (k : Int × Int) (x : HN) (r : List HN) : handF l k (x :: r) = if handB l x then handF l k r else (16, x.f) := rfl
theorem drop_at {α : Type} {l : List α} {k : Nat} {x : α} (h : l[k]? = some x) : l.drop k = x :: l.drop (k + 1) := by
  obtain ⟨hk, e⟩ := List.getElem?_eq_some_iff.1 h
  subst e
  exact List.drop_eq_getElem_cons hk
def Ans (p : Int × Int) (e : Ending) : Prop := e = .returned (.tuple #[.int .i64 p.1, .int .i64 p.2])
set_option maxRecDepth 8000 in
set_option maxHeartbeats 4000000 in
theorem checkCode_any (v : Value) (l : List IN) (w : World) (hv : IView w v l) :
    Calls Try.prog 40 #[v] w fun e w' => Ans (codeZ l) e ∧ Below w.heap.size w w' := by
  have HV := hidIt hv
  have GS := hidIt (fun (p : Int) W (h : Below w.heap.size w W) => stands_any v l p W (hv.below h))
  obtain ⟨ao, cap, rfl, hc, hm, _⟩ := hv
  unfold maxLen at hm
  by_cases h0 : l.length = 0
  · obtain rfl : l = [] := List.length_eq_zero_iff.1 h0
    go_enter Try.func40, Try.ntmps40
    go_wp2
    go_ret2
    exact ⟨rfl, Below.refl _ _⟩
  have hz : codeZ l = codeF l l := by unfold codeZ; rw [if_neg (fun h => h0 (by rw [h]; rfl))]
  rw [hz]
  have h0' : ((l.length : Int) == 0) = false := by simpa using h0
  have HA0 : Hid (codeF l (l.drop 0) = codeF l l) := rfl
  clear hz
  generalize codeF l l = A at *
  go_enter Try.func40, Try.ntmps40
  go_wp2
  go_loopw [5, 12] (fun _ i wr => ∃ k : Nat, k ≤ l.length ∧ i = .int .i64 (k : Int) ∧ Below w.heap.size w wr ∧ codeF l (l.drop k) = A) (fun _ i _ => l.length - (intOf i).toNat)
  case atStart => exact ⟨0, Nat.zero_le _, rfl, Below.refl _ w, HA0.out⟩
  case round =>
    obtain ⟨k, hk, rfl, hb, hA⟩ := hrel
    have HB := hidIt hb
    have HA := hidIt hA
    have hz := hb.size
    clear hb hA HA0
    by_cases hlt : k < l.length
    · have hlt' : (k : Int) < (l.length : Int) := by omega
      obtain ⟨x, hx⟩ : ∃ x, l[k]? = some x := ⟨l[k], List.getElem?_eq_getElem hlt⟩
      obtain ⟨g, off, rfl, c0, c1, c2, c3⟩ := (HV.out.below HB.out).row hx
      rw [drop_at hx, codeF_cons] at HA
      clear hx
      have GB := hidIt (fun W => branch_any x.op W)
      have hA1 := below_alloc wr (.cells #[.int .i64 x.pl, .int .i64 x.op, .int .i64 x.a, .int .i64 x.b] 81)
      have HB1 := hidIt (HB.out.trans (hA1.mono HB.out.size))
      have hX := box_at wr x
      have G2 := hidIt (GS.out x.a _ HB1.out)
      unfold brkB at HA
      clear hA1
      obtain ⟨d0, d1, d2, d3⟩ := hX
      by_cases h6 : kd x.op = 6
      · rw [decide_eq_true h6] at GB HA
        by_cases hf : 0 ≤ findZ l x.a
        · rw [decide_eq_true hf] at G2 HA
          go_wp2_with (first | (go_at_call 70; refine (GB.out _).mono ?_; rintro e w' ⟨rfl, hww⟩; cases hww) | (go_at_call 71; refine G2.out.mono ?_; rintro e w1 ⟨rfl, hb1⟩))
          exact ⟨⟨k + 1, by omega, by go_num, HB1.out.trans (hb1.mono HB1.out.size), by simpa using HA.out⟩, by simp [intOf]; omega⟩
        · rw [decide_eq_false hf] at G2 HA
          go_wp2_with (first | (go_at_call 70; refine (GB.out _).mono ?_; rintro e w' ⟨rfl, hww⟩; cases hww) | (go_at_call 71; refine G2.out.mono ?_; rintro e w1 ⟨rfl, hb1⟩; have d0 := cell_later hb1 d0))
          go_quiet (fail)
          go_wp2
          go_ret2
          refine ⟨?_, below_drewN (HB1.out.trans (hb1.mono HB1.out.size)) _⟩
          rw [← (show (16, x.pl) = A by simpa using HA.out)]
          rfl
      · rw [decide_eq_false h6] at GB HA
        go_wp2_with (first | (go_at_call 70; refine (GB.out _).mono ?_; rintro e w' ⟨rfl, hww⟩; cases hww))
        exact ⟨⟨k + 1, by omega, by go_num, HB1.out, by simpa using HA.out⟩, by simp [intOf]; omega⟩
    · have hlt' : ¬ (k : Int) < (l.length : Int) := by omega
      obtain rfl : k = l.length := by omega
      obtain ⟨x, hx⟩ : ∃ x, l[l.length - 1]? = some x := ⟨l[l.length - 1], List.getElem?_eq_getElem (by omega)⟩
      obtain ⟨g, off, rfl, c0, c1, c2, c3⟩ := (HV.out.below HB.out).row hx
      have hA1 := below_alloc wr (.cells #[.int .i64 x.pl, .int .i64 x.op, .int .i64 x.a, .int .i64 x.b] 81)
      have HB1 := hidIt (HB.out.trans (hA1.mono HB.out.size))
      have hX := box_at wr x
      have GE := hidIt (fun W => ends_any x.op W)
      have hl1 := last_get hx
      rw [List.drop_length] at HA
      have HA2 : Hid ((if endsB x.op then ((0, 0) : Int × Int) else (17, x.pl)) = A) := by have := HA.out; unfold codeF at this; rw [hl1] at this; exact this
      clear HA
      have HA := HA2
      clear HA2
      clear hA1 hl1 hx HV GS
      obtain ⟨d0, d1, d2, d3⟩ := hX
      generalize l.length = N at *
      obtain ⟨n1, rfl⟩ : ∃ n1, N = n1 + 1 := ⟨N - 1, by omega⟩
      rw [show n1 + 1 - 1 = n1 by omega] at *
      cases he : endsB x.op with
      | true =>
        rw [he] at GE HA
        go_wp2_with (first | (go_at_call 46; refine (GE.out _).mono ?_; rintro e w' ⟨rfl, hww⟩; cases hww))
        go_ret2
        refine ⟨?_, HB1.out⟩
        rw [← (show (0, 0) = A by simpa using HA.out)]
        rfl
      | false =>
        rw [he] at GE HA
        go_wp2_with (first | (go_at_call 46; refine (GE.out _).mono ?_; rintro e w' ⟨rfl, hww⟩; cases hww))
        go_quiet (fail)
        go_wp2
        go_ret2
        refine ⟨?_, below_drewN HB1.out _⟩
        rw [← (show (17, x.pl) = A by simpa using HA.out)]
        rfl
def prevZ (fr : List FN) (k : Nat) : Option Int := if k = 0 then none else (fr[k - 1]?).map FN.p
theorem fbox_at (w : World) (x : FN) : FAt (w.alloc (.cells #[.int .i64 x.p, .slice x.a1 x.n1 x.c1, .slice x.a2 x.n2 x.c2] 84)) w.heap.size 0 x := by
  have h := heap_alloc_new w (.cells #[.int .i64 x.p, .slice x.a1 x.n1 x.c1, .slice x.a2 x.n2 x.c2] 84)
  exact ⟨cell_row h 0 rfl, cell_row h 1 rfl, cell_row h 2 rfl⟩
set_option maxRecDepth 8000 in
set_option maxHeartbeats 4000000 in
theorem checkFrames_any (v u : Value) (l : List IN) (fr : List FN) (w : World) (hv : IView w v l) (hu : FView w u fr) :
    Calls Try.prog 42 #[v, u] w fun e w' => Ans (framF l none fr) e ∧ Below w.heap.size w w' := by
  have HV := hidIt hv
  have HU := hidIt hu
  have GS := hidIt (fun (p : Int) W (h : Below w.heap.size w W) => stands_any v l p W (hv.below h))
  obtain ⟨ao0, cap0, rfl, -⟩ := hv
  obtain ⟨ao, cap, rfl, hc, hm, _⟩ := hu
  unfold maxLen at hm
  have HA0 : Hid (framF l (prevZ fr 0) (fr.drop 0) = framF l none fr) := rfl
  generalize framF l none fr = A at *
  go_enter Try.func42, Try.ntmps42
  go_wp2
  go_loopw [6, 7, 10] (fun _ _ i wr => ∃ k : Nat, k ≤ fr.length ∧ i = .int .i64 (k : Int) ∧ Below w.heap.size w wr ∧ framF l (prevZ fr k) (fr.drop k) = A) (fun _ _ i _ => fr.length - (intOf i).toNat)
  case atStart => exact ⟨0, Nat.zero_le _, rfl, Below.refl _ w, HA0.out⟩
  case round =>
    obtain ⟨k, hk, rfl, hb, hA⟩ := hrel
    have HB := hidIt hb
    have HA := hidIt hA
    have hz := hb.size
    clear hb hA HA0
    by_cases hlt : k < fr.length
    · have hlt' : (k : Int) < (fr.length : Int) := by omega
      obtain ⟨x, hx⟩ : ∃ x, fr[k]? = some x := ⟨fr[k], List.getElem?_eq_getElem hlt⟩
      obtain ⟨g, off, rfl, c0, c1, c2⟩ := (HU.out.below HB.out).row hx
      rw [drop_at hx, framF_cons] at HA
      have hnext : prevZ fr (k + 1) = some x.p := by unfold prevZ; rw [if_neg (by omega), Nat.add_sub_cancel, hx]; rfl
      rw [← hnext] at HA
      have hA1 := below_alloc wr (.cells #[.int .i64 x.p, .slice x.a1 x.n1 x.c1, .slice x.a2 x.n2 x.c2] 84)
      have HB1 := hidIt (HB.out.trans (hA1.mono HB.out.size))
      have hX := fbox_at wr x
      have G2 := hidIt (GS.out x.p _ HB1.out)
      obtain ⟨d0, d1, d2⟩ := hX
      clear hnext
      by_cases hf : 0 ≤ findZ l x.p
      · rw [decide_eq_true hf] at G2
        rw [if_neg (by omega)] at HA
        by_cases hk0 : k = 0
        · have hp : prevZ fr k = none := by unfold prevZ; rw [if_pos hk0]
          rw [hp] at HA
          have HA2 : Hid (framF l (prevZ fr (k + 1)) (fr.drop (k + 1)) = A) := HA.out
          have hk0' : decide ((0 : Int) < (k : Int)) = false := by simpa using hk0
          have hk0n : decide (0 < k) = false := by simpa using hk0
          have hk0m : ¬ 0 < k := by omega
          clear HA hp hk0 hx HU
          go_wp2_with (first | (go_at_call 71; refine G2.out.mono ?_; rintro e w1 ⟨rfl, hb1⟩; have e0 := cell_later hb1 d0))
          go_quiet (fail)
          go_wp2
          exact ⟨⟨k + 1, by omega, by go_num, below_drewN (HB1.out.trans (hb1.mono HB1.out.size)) _, HA2.out⟩, by simp [intOf]; omega⟩
        · obtain ⟨y, hy⟩ : ∃ y, fr[k - 1]? = some y := ⟨fr[k - 1], List.getElem?_eq_getElem (by omega)⟩
          obtain ⟨g', off', e', y0, y1, y2⟩ := (HU.out.below HB.out).row hy
          cases e'
          have hp : prevZ fr k = some y.p := by unfold prevZ; rw [if_neg hk0, hy]; rfl
          rw [hp] at HA
          have HA2 : Hid ((if decide (x.p ≤ y.p) = true then ((21, x.p) : Int × Int) else framF l (prevZ fr (k + 1)) (fr.drop (k + 1))) = A) := HA.out
          clear HA hp hy hx HU
          have y0' := cell_later hA1 y0
          obtain ⟨m, rfl⟩ : ∃ m, k = m + 1 := ⟨k - 1, by omega⟩
          rw [show m + 1 - 1 = m by omega] at y0'
          have hkm : (0 : Int) < ((m + 1 : Nat) : Int) := by omega
          by_cases hle : x.p ≤ y.p
          · rw [decide_eq_true hle, if_pos rfl] at HA2
            go_wp2_with (first | (go_at_call 71; refine G2.out.mono ?_; rintro e w1 ⟨rfl, hb1⟩; have e0 := cell_later hb1 d0; have f0 := cell_later hb1 y0'))
            go_quiet (fail)
            go_wp2
            go_quiet (fail)
            go_wp2
            go_ret2
            refine ⟨?_, below_drewN (below_drewN (HB1.out.trans (hb1.mono HB1.out.size)) _) _⟩
            rw [← HA2.out]
            rfl
          · rw [decide_eq_false hle, if_neg (by decide)] at HA2
            go_wp2_with (first | (go_at_call 71; refine G2.out.mono ?_; rintro e w1 ⟨rfl, hb1⟩; have e0 := cell_later hb1 d0; have f0 := cell_later hb1 y0'))
            go_quiet (fail)
            go_wp2
            exact ⟨⟨m + 1 + 1, by omega, by go_num, below_drewN (HB1.out.trans (hb1.mono HB1.out.size)) _, HA2.out⟩, by simp [intOf]; omega⟩
      · rw [decide_eq_false hf] at G2
        rw [if_pos (by omega)] at HA
        clear hx
        go_wp2_with (first | (go_at_call 71; refine G2.out.mono ?_; rintro e w1 ⟨rfl, hb1⟩; have e0 := cell_later hb1 d0))
        go_quiet (fail)
        go_wp2
        go_ret2
        refine ⟨?_, below_drewN (HB1.out.trans (hb1.mono HB1.out.size)) _⟩
        rw [← HA.out]
        rfl
    · have hlt' : ¬ (k : Int) < (fr.length : Int) := by omega
      obtain rfl : k = fr.length := by omega
      rw [List.drop_length] at HA
      have HA2 : Hid (((0, 0) : Int × Int) = A) := HA.out
      clear HA
      go_wp2
      go_ret2
      refine ⟨?_, HB.out⟩
      rw [← HA2.out]
      rfl
end Go.Proofs.Ytbmfkbgncjldjaa
namespace Go.Proofs.Ytbmfkbgncjldjaa
open Go.RowKit

set_option maxRecDepth 8000 in
set_option maxHeartbeats 1000000 in
theorem rend_any (v : Value) (l : List IN) (w : World) (hv : IView w v l) (h0 : 0 < l.length) (hp : ∀ x ∈ l, -4611686018427387904 ≤ x.pl ∧ x.pl ≤ 4611686018427387904) :
    Calls Try.prog 45 #[v] w fun e w' => e = .returned (.int .i64 (endZ l)) ∧ Below w.heap.size w w' := by
  have HV := hidIt hv
  obtain ⟨ao, cap, rfl, hc, hm, _⟩ := hv
  unfold maxLen at hm
  obtain ⟨x, hx⟩ : ∃ x, l[l.length - 1]? = some x := ⟨l[l.length - 1], List.getElem?_eq_getElem (by omega)⟩
  obtain ⟨g, off, rfl, c0, c1, c2, c3⟩ := HV.out.row hx
  have hz : endZ l = x.pl + (sz x.op : Nat) := by unfold endZ; rw [last_get hx]
  have hpx := hp x (List.mem_of_getElem? hx)
  have hsz : (sz x.op : Nat) ≤ 3 := sz_le x.op
  rw [hz]
  have HA := hidIt (below_alloc w (.cells #[.int .i64 x.pl, .int .i64 x.op, .int .i64 x.a, .int .i64 x.b] 81))
  have hW := box_at w x
  obtain ⟨d0, d1, d2, d3⟩ := hW
  have hS0 := hidIt (And.intro d0 d1)
  have G := hidIt (fun W => rsize rname5 x.op W)
  have hne : ((l.length : Int) == 0) = false := by rw [beq_eq_false_iff_ne]; omega
  clear hx hz hp HV
  generalize l.length = N at *
  obtain ⟨n1, rfl⟩ : ∃ n1, N = n1 + 1 := ⟨N - 1, by omega⟩
  rw [show n1 + 1 - 1 = n1 by omega] at *
  go_enter Try.func45, Try.ntmps45
  go_wp2_with fail
  generalize w.alloc (.cells #[.int .i64 x.pl, .int .i64 x.op, .int .i64 x.a, .int .i64 x.b] 81) = W1 at *
  have hzW : w.heap.size ≤ W1.heap.size := HA.out.size
  have hS1 : Hid (W1.drew.cell? ⟨w.heap.size, 0, none⟩ = some (.int .i64 x.pl) ∧ W1.drew.cell? ⟨w.heap.size, 1, none⟩ = some (.int .i64 x.op)) := hS0.out
  have hS3 : Hid (∀ W, Below W1.drew.heap.size W1.drew W → W.cell? ⟨w.heap.size, 0, none⟩ = some (.int .i64 x.pl) ∧ W.cell? ⟨w.heap.size, 1, none⟩ = some (.int .i64 x.op)) := fun W b => ⟨cell_later b hS1.out.1, cell_later b hS1.out.2⟩
  clear d0 d1 d2 d3 c0 c1 c2 c3
  go_region_held3 (fun W => W.cell? ⟨w.heap.size, 0, none⟩ = some (.int .i64 x.pl) ∧ W.cell? ⟨w.heap.size, 1, none⟩ = some (.int .i64 x.op)) (first | exact hS0.out | exact hS1.out | exact hS3.out _ (by assumption))
    (first | (go_at_call 66; refine (G.out _).mono ?_; rintro e w2 ⟨rfl, b2⟩))
  go_wp2
  go_ret
  have b3 : Below W1.heap.size W1 w2 := ⟨b2.os, b2.tape, b2.output, b2.size, b2.block⟩
  refine ⟨?_, HA.out.trans (b3.mono hzW)⟩
  show Ending.returned (.int .i64 (IntKind.i64.wrap (x.pl + (sz x.op : Nat)))) = _
  rw [show IntKind.i64.wrap (x.pl + (sz x.op : Nat)) = x.pl + (sz x.op : Nat) by rw [IntKind.wrap_i64]; omega]
end Go.Proofs.Ytbmfkbgncjldjaa
