/- grant: walked. -/
import Derived.Test.YtacmooknfbjpeaaLFn
namespace Go.Proofs.Ytacmooknfbjpeaa.J
open Go.RowKit Go.MapKept Go.ChangeMaps
set_option linter.unusedVariables false
variable {n0 : Nat} {w : World} {H : LB} {S : Ls}

def Ls.putLd (S : Ls) (i : Nat) (s : ByteArray) (c : Int × Int) : Ls := match S.each[i]? with
  | some x => S.setN i { x with ld := x.ld ++ [(s, c)] }
  | none => S
theorem putLd_len (S : Ls) (i : Nat) (s : ByteArray) (c : Int × Int) : (S.putLd i s c).each.length = S.each.length := by
  unfold Ls.putLd
  split
  · simp [Ls.setN]
  · rfl
/-- Those of a line load a name. -/
def grantL (s : ByteArray) (c : Int × Int) : List Int → Ls → Ls × Int
  | [], S => (S, 0)
  | n :: L, S => match S.told n.toNat s with
    | some id => if id = c.1 then grantL s c L (if (S.ldN n.toNat s).isSome then S else S.putLd n.toNat s c) else (S, 25)
    | none => grantL s c L (if (S.ldN n.toNat s).isSome then S else S.putLd n.toNat s c)
def Ls.clsOf (S : Ls) (fi : Nat) (s : ByteArray) : Int × Int := match S.ldN fi s with
  | some c => c
  | none => (match S.ofN fi s with
    | some o => o.2
    | none => 0, fi)
theorem upL_in (hp : ∀ (i : Nat) x, S.each[i]? = some x → -1 ≤ x.par ∧ x.par < (i : Int)) (t : Nat) : ∀ (f n : Nat) (l : List Int), n < S.each.length → S.upL t f n = some l → l.length ≤ f ∧ ∀ x ∈ l, ∃ k : Nat, x = (k : Int) ∧ k < S.each.length
  | 0, n, l, hn, h => by simp [Ls.upL] at h
  | f + 1, n, l, hn, h => by
    unfold Ls.upL at h
    split at h
    · cases h
      exact ⟨by simp, fun x hx => ⟨n, by simpa using hx, hn⟩⟩
    · split at h
      · rename_i y hy
        split at h
        · cases h
        · rename_i h0
          rw [Option.map_eq_some_iff] at h
          obtain ⟨r, hr, rfl⟩ := h
          have := hp n y hy
          obtain ⟨a, b⟩ := upL_in hp t f y.par.toNat r (by omega) hr
          refine ⟨by simp; omega, fun x hx => ?_⟩
          rcases List.mem_cons.1 hx with rfl | hx
          · exact ⟨n, rfl, hn⟩
          · exact b x hx
      · cases h
/-- A name is loaded by one more. -/
theorem LoV.load1 (h : LoV n0 w H S) {n : Nat} (hn : n < S.each.length) (nm : ByteArray) (c : Int × Int) (hno : S.ldN n nm = none) : ∃ g cap es clk, H.ev = .slice (some ⟨g, 0, none⟩) S.each.length cap ∧ w.cell? ⟨H.hb, 0, none⟩ = some (.slice (some ⟨g, 0, none⟩) S.each.length cap) ∧ w.cell? ⟨g, n * 3 + 2, none⟩ = some (.map (some (H.mb (2 * n + 2)))) ∧
    (Instr.mapUpdate 62 (.map (some (H.mb (2 * n + 2)))) (.string nm) (.agg #[.int .i64 c.1, .int .i64 c.2])).run Try.prog w.drew = .ok () (setBlock w.drew (H.mb (2 * n + 2)) (.map es clk)) ∧
    LoV n0 (setBlock w.drew (H.mb (2 * n + 2)) (.map es clk)) H (S.putLd n nm c) ∧ LStep H H w (setBlock w.drew (H.mb (2 * n + 2)) (.map es clk)) := by
  obtain ⟨x, hx⟩ : ∃ x, S.each[n]? = some x := ⟨_, List.getElem?_eq_getElem hn⟩
  obtain ⟨g, cap, ev, hc, hg, k0, k1, k2, m1, m2⟩ := h.row hx
  have c0 := h.c0
  rw [ev] at c0
  have hld : alook x.ld nm = none := by
    unfold Ls.ldN at hno
    rw [hx] at hno
    exact hno
  have bd : Below w.heap.size w w.drew := (Below.refl _ w).drew
  obtain ⟨es, clk, hput, IM⟩ := (m2.kept (bd.block _ m2.lt)).put Try.underlying62 Try.underlying9 nm (clsV c) (by rw [slook_map, hld]; rfl)
  obtain ⟨a, b⟩ := (h.below bd).putLd hx nm c IM
  refine ⟨g, cap, es, clk, ev, c0, k2, hput, ?_, (LStep.of_below bd).trans b⟩
  unfold Ls.putLd
  rw [hx]
  exact a
theorem drop_at {α : Type} {l : List α} {k : Nat} {x : α} (h : l[k]? = some x) : l.drop k = x :: l.drop (k + 1) := by
  obtain ⟨h1, h2⟩ := List.getElem?_eq_some_iff.1 h
  rw [← h2]
  exact List.drop_eq_getElem_cons h1
set_option maxRecDepth 8000 in
set_option maxHeartbeats 4000000 in
theorem grant_any (h : LoV n0 w H S) {fi dn : Nat} (hfi : fi < S.each.length) (hdn : dn < S.each.length) (nm : ByteArray) {l : List Int} (hl : S.upL fi 17 dn = some l) (hdef : (S.ofN fi nm).isSome = true ∨ (S.ldN fi nm).isSome = true) : Calls Try.prog 30 #[H.ptr, .agg #[.string nm, .int .i64 (fi : Int), .int .i64 (dn : Int)]] w fun e w' => e = .returned (.int .i64 (grantL nm (S.clsOf fi nm) l.reverse S).2) ∧ LoV n0 w' H (grantL nm (S.clsOf fi nm) l.reverse S).1 ∧ LStep H H w w' := by
  have HV := hidIt h
  have hf := h.few
  have hin := upL_in h.par fi 17 dn l hdn hl
  obtain ⟨x, hx⟩ : ∃ x, S.each[fi]? = some x := ⟨_, List.getElem?_eq_getElem hfi⟩
  obtain ⟨g, cap, ev, hc, hg, k0, k1, k2, m1, m2⟩ := h.row hx
  have c0 := h.c0
  rw [ev] at c0
  have hld : S.ldN fi nm = alook x.ld nm := by unfold Ls.ldN; rw [hx]
  have hof : S.ofN fi nm = alook x.of nm := by unfold Ls.ofN; rw [hx]
  have hlt := (h.lt (.inl rfl)).2
  have hfi' : (fi : Int) < (S.each.length : Int) := by omega
  have hHb : ∀ b, H.has b → b < w.heap.size := fun b e => (h.lt e).2
  have GLn : Hid (∀ W, Below w.heap.size w W → Calls Try.prog 43 #[.pointer (some ⟨H.hb, 0, none⟩), .int .i64 (fi : Int), .int .i64 (dn : Int)] W fun e w' => ∃ v, e = .returned v ∧ NOwn w' W.heap.size v l.reverse ∧ Below W.heap.size W w') := hidIt fun W hW => line_any (h.below hW) hl hdn
  have GT : Hid (∀ (W : World) (S' : Ls) (k : Nat), k < S'.each.length → LoV n0 W H S' → Calls Try.prog 25 #[.pointer (some ⟨H.hb, 0, none⟩), .int .i64 (k : Int), .string nm] W fun e w' => e = .returned (.tuple #[.int .i64 ((S'.told k nm).getD 0), .bool (S'.told k nm).isSome]) ∧ LoV n0 w' H S' ∧ LStep H H W w') := hidIt fun W S' k hk hW => told_any hW hk nm
  have GL : Hid (∀ (W : World) (S' : Ls) (k : Nat), LoV n0 W H S' → Calls Try.prog 40 #[.pointer (some ⟨H.hb, 0, none⟩), .int .i64 (k : Int), .string nm] W fun e w' => e = .returned (.bool (S'.ldN k nm).isSome) ∧ LoV n0 w' H S' ∧ LStep H H W w') := hidIt fun W S' k hW => by
    have := loaded_any hW (k : Int) nm
    rw [ldd_nat] at this
    exact this.mono fun e w' ⟨a, b⟩ => ⟨a, hW.below b, LStep.of_below b⟩
  have hL : Hid (l.reverse.length ≤ 17 ∧ ∀ x ∈ l.reverse, ∃ k : Nat, x = (k : Int) ∧ k < S.each.length) := hidIt ⟨by rw [List.length_reverse]; exact hin.1, fun x hx => hin.2 x (List.mem_reverse.1 hx)⟩
  clear h hl hin
  unfold LB.ptr
  generalize l.reverse = L at *
  have FB : Hid (∀ (c : Int × Int) (W0 w0 : World) (ao : Option Addr) (n cap' : Nat), w.heap.size + 2 ≤ W0.heap.size → Below w.heap.size w W0 → W0.cell? ⟨w.heap.size, 0, none⟩ = some (.string nm) → W0.cell? ⟨w.heap.size + 1, 0, none⟩ = some (.int .i64 c.1) → W0.cell? ⟨w.heap.size + 1, 1, none⟩ = some (.int .i64 c.2) → NOwn w0 W0.heap.size (.slice ao n cap') L → Below W0.heap.size W0 w0 →
      LStep H H w w0 ∧ LoV n0 w0 H S ∧ ∀ W, LStep H H w0 W → W.cell? ⟨w.heap.size, 0, none⟩ = some (.string nm) ∧ W.cell? ⟨w.heap.size + 1, 0, none⟩ = some (.int .i64 c.1) ∧ W.cell? ⟨w.heap.size + 1, 1, none⟩ = some (.int .i64 c.2) ∧ NOwn W w.heap.size (.slice ao n cap') L) := hidIt fun c W0 w0 ao n cap' hz hB d0 d1 d2 hno hb0 => by
    have hz0 := hb0.size
    have hkp : ∀ W, LStep H H w0 W → ∀ b, w.heap.size ≤ b → b < w0.heap.size → W.heap[b]? = w0.heap[b]? := fun W hW b h1 h2 => hW.block b h2 fun e => by have := hHb b e; omega
    have hc0 : ∀ b, b < W0.heap.size → w0.heap[b]? = W0.heap[b]? := fun b hb => hb0.block b hb
    refine ⟨LStep.of_below (hB.trans (hb0.mono hB.size)), HV.out.below (hB.trans (hb0.mono hB.size)), fun W hW => ⟨?_, ?_, ?_, ?_⟩⟩
    · exact (World.cell?_of_block (hkp W hW w.heap.size (Nat.le_refl _) (by omega))).trans ((World.cell?_of_block (hc0 w.heap.size (by omega))).trans d0)
    · exact (World.cell?_of_block (hkp W hW (w.heap.size + 1) (by omega) (by omega))).trans ((World.cell?_of_block (hc0 (w.heap.size + 1) (by omega))).trans d1)
    · exact (World.cell?_of_block (hkp W hW (w.heap.size + 1) (by omega) (by omega))).trans ((World.cell?_of_block (hc0 (w.heap.size + 1) (by omega))).trans d2)
    · exact own_kept (own_wk hno (by omega)) fun b e => hkp W hW b (by have := (hno.lt b e).1; omega) (hno.lt b e).2
  obtain ⟨c1, c2, hcc⟩ : ∃ c1 c2, S.clsOf fi nm = (c1, c2) := ⟨_, _, rfl⟩
  rw [hcc]
  obtain ⟨d1, d2, hd⟩ : ∃ d1 d2, (alook x.ld nm).getD (0, 0) = (d1, d2) := ⟨_, _, rfl⟩
  obtain ⟨ok, hok⟩ : ∃ ok, (alook x.ld nm).isSome = ok := ⟨_, rfl⟩
  have hv : ((alook x.ld nm).map clsV).getD (.agg #[.int .i64 0, .int .i64 0]) = .agg #[.int .i64 d1, .int .i64 d2] := by
    cases e : alook x.ld nm with
    | none => rw [e] at hd; cases hd; rfl
    | some c => rw [e] at hd; cases hd; rfl
  have hlk : ∀ W, Below w.heap.size w W → (Instr.lookup 62 (.map (some (H.mb (2 * fi + 2)))) (.string nm) true).run Try.prog W = .ok (.tuple #[.agg #[.int .i64 d1, .int .i64 d2], .bool ok]) W := fun W hW => by
    have := (m2.kept (hW.block _ m2.lt)).look2 Try.underlying62 Try.underlying9 (zero_cls W) nm
    rw [slook_map, hv, Option.isSome_map, hok] at this
    exact this
  have hlo : Hid (∀ W o, alook x.of nm = some o → Below w.heap.size w W → (Instr.lookup 61 (.map (some (H.mb (2 * fi + 1)))) (.string nm) false).run Try.prog W = .ok (.agg #[.string o.1, .int .i64 o.2]) W) := hidIt fun W o hoo hW => by
    have := (m1.kept (hW.block _ m1.lt)).look Try.underlying61 Try.underlying9 (zero_off W) nm
    rw [slook_map, hoo] at this
    exact this
  have hbz := ((balloc w (.cells #[.string nm, .int .i64 (fi : Int), .int .i64 (dn : Int)] 75)).alloc (by simp) (.cells #[.int .i64 0, .int .i64 0] 78)).drew
  have hlk1 := hlk _ hbz
  have hlk2 := hlk _ (balloc w (.cells #[.string nm, .int .i64 (fi : Int), .int .i64 (dn : Int)] 75)).drew
  clear hlk m1 m2 hbz
  have OK1 : Hid (ok = true → c1 = d1 ∧ c2 = d2) := hidIt fun e => by
    rw [e] at hok
    obtain ⟨c, hc⟩ := Option.isSome_iff_exists.1 hok
    rw [hc] at hd
    unfold Ls.clsOf at hcc
    rw [hld, hc] at hcc
    cases hcc
    cases hd
    exact ⟨rfl, rfl⟩
  have OK2 : Hid (ok = false → ∃ sp, alook x.of nm = some (sp, c1) ∧ c2 = (fi : Int)) := hidIt fun e => by
    rw [e] at hok
    have hn : alook x.ld nm = none := by simpa using hok
    rw [hof, hld, hn] at hdef
    obtain ⟨o, hoo⟩ : ∃ o, alook x.of nm = some o := by
      rcases hdef with h | h
      · exact Option.isSome_iff_exists.1 h
      · cases h
    unfold Ls.clsOf at hcc
    rw [hld, hn, hof, hoo] at hcc
    cases hcc
    exact ⟨o.1, hoo, rfl⟩
  clear hld hof hdef hcc hd hok hv
  obtain ⟨R, hR⟩ : ∃ R, grantL nm (c1, c2) L S = R := ⟨_, rfl⟩
  rw [hR]
  have HR : Hid (grantL nm (c1, c2) (L.drop 0) S = R) := hidIt hR
  clear hR
  go_enter Try.func30, Try.ntmps30
  go_upto_region 1 with (fail)
  go_cut [5, 6] from 11 to 25 (fun v5 v6 wx => v5 = .pointer (some ⟨w.heap.size + 1, 0, none⟩) ∧ v6 = .bool ok ∧ wx = ((w.alloc (.cells #[.string nm, .int .i64 (fi : Int), .int .i64 (dn : Int)] 75)).alloc (.cells #[.int .i64 d1, .int .i64 d2] 78)).drew)
  case first =>
    go_region
    all_goals
      go_wp2_with fail
      go_meet
      exact ⟨rfl, rfl, rfl⟩
  case rest =>
    obtain ⟨rfl, rfl, rfl⟩ := hcut
    clear hlk1 hlk2
    go_upto_if 27 with (fail)
    go_cut [] from 28 to 43 (fun wx => Below w.heap.size w wx ∧ w.heap.size + 2 ≤ wx.heap.size ∧ wx.cell? ⟨w.heap.size, 0, none⟩ = some (.string nm) ∧ wx.cell? ⟨w.heap.size, 1, none⟩ = some (.int .i64 (fi : Int)) ∧ wx.cell? ⟨w.heap.size, 2, none⟩ = some (.int .i64 (dn : Int)) ∧ wx.cell? ⟨w.heap.size + 1, 0, none⟩ = some (.int .i64 c1) ∧ wx.cell? ⟨w.heap.size + 1, 1, none⟩ = some (.int .i64 c2))
    case first =>
      have REL : ∀ (q1 q2 : Int) (X : World), X.heap = ((w.alloc (.cells #[.string nm, .int .i64 (fi : Int), .int .i64 (dn : Int)] 75)).alloc (.cells #[.int .i64 q1, .int .i64 q2] 78)).heap → X.os = w.os → X.output = w.output → X.tape = w.tape → Below w.heap.size w X ∧ w.heap.size + 2 ≤ X.heap.size ∧ X.cell? ⟨w.heap.size, 0, none⟩ = some (.string nm) ∧ X.cell? ⟨w.heap.size, 1, none⟩ = some (.int .i64 (fi : Int)) ∧ X.cell? ⟨w.heap.size, 2, none⟩ = some (.int .i64 (dn : Int)) ∧ X.cell? ⟨w.heap.size + 1, 0, none⟩ = some (.int .i64 q1) ∧ X.cell? ⟨w.heap.size + 1, 1, none⟩ = some (.int .i64 q2) := fun q1 q2 X hX h1 h2 h3 => by
        have hb : Below w.heap.size w ((w.alloc (.cells #[.string nm, .int .i64 (fi : Int), .int .i64 (dn : Int)] 75)).alloc (.cells #[.int .i64 q1, .int .i64 q2] 78)) := (balloc w _).alloc (by simp) _
        have bk : Blk X (w.heap.size + 1) #[.int .i64 q1, .int .i64 q2] 78 := by
          have := Blk.new (w.alloc (.cells #[.string nm, .int .i64 (fi : Int), .int .i64 (dn : Int)] 75)) #[.int .i64 q1, .int .i64 q2] 78
          rw [World.size_alloc] at this
          unfold Blk at *
          rw [hX]; exact this
        have bq : Blk X w.heap.size #[.string nm, .int .i64 (fi : Int), .int .i64 (dn : Int)] 75 := by
          have := (Blk.new w #[.string nm, .int .i64 (fi : Int), .int .i64 (dn : Int)] 75).kept ((balloc (w.alloc (.cells #[.string nm, .int .i64 (fi : Int), .int .i64 (dn : Int)] 75)) (.cells #[.int .i64 q1, .int .i64 q2] 78)).block w.heap.size (by simp))
          unfold Blk at *
          rw [hX]; exact this
        refine ⟨⟨h1, h3, h2, by rw [hX]; exact hb.size, fun b hb2 => by rw [hX]; exact hb.block b hb2⟩, by rw [hX]; simp, bq.cell 0, bq.cell 1, bq.cell 2, bk.cell 0, bk.cell 1⟩
      have HREL := hidIt REL
      clear REL
      cases ok with
      | true =>
        obtain ⟨rfl, rfl⟩ := OK1.out rfl
        go_wp2_with fail
        go_meet
        exact HREL.out _ _ _ rfl rfl rfl rfl
      | false =>
        obtain ⟨sp, hoo, rfl⟩ := OK2.out rfl
        have hbz := ((balloc w (.cells #[.string nm, .int .i64 (fi : Int), .int .i64 (dn : Int)] 75)).alloc (by simp) (.cells #[.int .i64 d1, .int .i64 d2] 78)).drew
        have hlo1 := hlo.out _ _ hoo hbz.drew
        dsimp only at hlo1
        have hfl := fun w => run_of1 sp c1 w
        clear hbz hoo
        go_wp2_with fail
        go_region
        all_goals
          go_wp2_with fail
          go_meet
          exact HREL.out _ _ _ rfl rfl rfl rfl
    case rest =>
      obtain ⟨hBW, hz, e0, e3, e4, e1, e2⟩ := hcut
      have BW := hidIt hBW
      clear hBW OK1 OK2 hlo
      go_wp2_with (go_at_call 43; refine (GLn.out _ BW.out).mono ?_; rintro e w0 ⟨v, rfl, hno, hb0⟩; obtain ⟨ao, cap1, rfl⟩ := own_slice hno; have F := hidIt (FB.out (c1, c2) _ w0 ao _ cap1 hz BW.out e0 e1 e2 hno hb0); clear hno hb0)
      clear e0 e1 e2 e3 e4
      generalize hLn : L.length = ln at *
      go_loopw [51] (fun iv wr => ∃ (k : Nat) (S' : Ls), iv = .int .i64 (k : Int) ∧ k ≤ ln ∧ LoV n0 wr H S' ∧ LStep H H w0 wr ∧ S'.each.length = S.each.length ∧ grantL nm (c1, c2) (L.drop k) S' = R) (fun iv _ => ln - (intOf iv).toNat)
      case atStart => exact ⟨0, S, rfl, Nat.zero_le _, F.out.2.1, LStep.refl _ _, rfl, HR.out⟩
      case round =>
        clear HR
        obtain ⟨k, S', rfl, hk, hv, hs, hSl, hgr⟩ := hrel
        have HVr := hidIt hv
        have HSr := hidIt hs
        clear hv hs
        by_cases hlt2 : k < ln
        · have hlt2' : (k : Int) < (ln : Int) := by omega
          obtain ⟨y, hy⟩ : ∃ y, L[k]? = some y := ⟨_, List.getElem?_eq_getElem (by omega)⟩
          obtain ⟨n, rfl, hn⟩ := hL.out.2 y (List.mem_of_getElem? hy)
          obtain ⟨a0, a1, a2, ano⟩ := F.out.2.2 wr HSr.out
          obtain ⟨gl, rfl, hgl, -, cl, -⟩ := ano.cell hy
          rw [drop_at hy] at hgr
          unfold grantL at hgr
          rw [Int.toNat_natCast] at hgr
          have g1 := hidIt (GT.out wr S' n (by omega) HVr.out)
          have g2 := hidIt (fun W => GL.out W S' n)
          have CB : Hid (∀ W, LStep H H wr W → W.cell? ⟨w.heap.size, 0, none⟩ = some (.string nm) ∧ W.cell? ⟨w.heap.size + 1, 0, none⟩ = some (.int .i64 c1) ∧ W.cell? ⟨w.heap.size + 1, 1, none⟩ = some (.int .i64 c2)) := hidIt fun W hW => by
            obtain ⟨b0, b1, b2, -⟩ := F.out.2.2 W (HSr.out.trans hW)
            exact ⟨b0, b1, b2⟩
          clear ano a1 a2
          have W1 : Hid (Value.int .i64 (wrap64 ((k : Int) + 1)) = .int .i64 ((k + 1 : Nat) : Int)) := hidIt (by have := hL.out.1; rw [IntWalk.wrap64_in _ (by omega)]; rfl)
          have GO : Hid (∀ W, LoV n0 W H S' → LStep H H wr W → grantL nm (c1, c2) (L.drop (k + 1)) S' = R → ∃ (k' : Nat) (S' : Ls), Value.int .i64 (wrap64 ((k : Int) + 1)) = .int .i64 (k' : Int) ∧ k' ≤ ln ∧ LoV n0 W H S' ∧ LStep H H w0 W ∧ S'.each.length = S.each.length ∧ grantL nm (c1, c2) (L.drop k') S' = R) := hidIt fun W h1 h2 h3 => ⟨k + 1, S', W1.out, by omega, h1, HSr.out.trans h2, hSl, h3⟩
          have GP : Hid (∀ W, LoV n0 W H (S'.putLd n nm (c1, c2)) → LStep H H wr W → grantL nm (c1, c2) (L.drop (k + 1)) (S'.putLd n nm (c1, c2)) = R → ∃ (k' : Nat) (S' : Ls), Value.int .i64 (wrap64 ((k : Int) + 1)) = .int .i64 (k' : Int) ∧ k' ≤ ln ∧ LoV n0 W H S' ∧ LStep H H w0 W ∧ S'.each.length = S.each.length ∧ grantL nm (c1, c2) (L.drop k') S' = R) := hidIt fun W h1 h2 h3 => ⟨k + 1, _, W1.out, by omega, h1, HSr.out.trans h2, by rw [putLd_len]; exact hSl, h3⟩
          have PUT : Hid (∀ W, LoV n0 W H S' → S'.ldN n nm = none → _) := hidIt fun W hW hno => hW.load1 (by omega) nm (c1, c2) hno
          have hn' : (n : Int) < (S'.each.length : Int) := by omega
          cases ht : S'.told n nm with
          | none =>
            rw [ht] at hgr g1
            dsimp only at hgr
            simp only [Option.getD_none, Option.isSome_none] at g1
            have g3 := hidIt (g2.out)
            clear g2
            cases hl2 : S'.ldN n nm with
            | some c =>
              rw [hl2] at hgr g3
              simp only [Option.isSome_some, if_true] at hgr
              have HG := hidIt hgr
              clear hgr GP PUT hl2
              go_wp2_with (first
                | (go_at_call 25; refine g1.out.mono ?_; rintro e w1 ⟨rfl, hv1, hs1⟩; obtain ⟨b0, b1, b2⟩ := CB.out w1 hs1; have HV1 := hidIt hv1; have HS1 := hidIt hs1; clear hv1 hs1 g1)
                | (go_at_call 40; refine (g3.out _ HV1.out).mono ?_; rintro e w2 ⟨rfl, hv2, hs2⟩; have Q := hidIt (GO.out w2 hv2 (HS1.out.trans hs2) HG.out); clear hv2 hs2))
              exact ⟨Q.out, by rw [W1.out]; simp [intOf]; omega⟩
            | none =>
              rw [hl2] at hgr g3
              simp only [Option.isSome_none, Bool.false_eq_true, if_false] at hgr
              have HG := hidIt hgr
              clear hgr GO
              go_wp2_with (first
                | (go_at_call 25; refine g1.out.mono ?_; rintro e w1 ⟨rfl, hv1, hs1⟩; obtain ⟨b0, b1, b2⟩ := CB.out w1 hs1; have HV1 := hidIt hv1; have HS1 := hidIt hs1; clear hv1 hs1 g1)
                | (go_at_call 40; refine (g3.out _ HV1.out).mono ?_; rintro e w2 ⟨rfl, hv2, hs2⟩; obtain ⟨g4, cap4, es, clk, -, p0, p2, hput, hvp, hsp⟩ := PUT.out w2 hv2 hl2; obtain ⟨q0, q1, q2⟩ := CB.out w2 (HS1.out.trans hs2); have Q := hidIt (GP.out _ hvp ((HS1.out.trans hs2).trans hsp) HG.out); clear hv2 hs2 hvp hsp))
              go_region
              go_wp2_with fail
              exact ⟨Q.out, by rw [W1.out]; simp [intOf]; omega⟩
          | some id =>
            rw [ht] at hgr g1
            dsimp only at hgr
            simp only [Option.getD_some, Option.isSome_some] at g1
            by_cases hid : id = c1
            · rw [if_pos hid] at hgr
              have hid' : (id != c1) = false := by simp [hid]
              have g3 := hidIt (g2.out)
              clear g2
              cases hl2 : S'.ldN n nm with
              | some c =>
                rw [hl2] at hgr g3
                simp only [Option.isSome_some, if_true] at hgr
                have HG := hidIt hgr
                clear hgr GP PUT hl2
                go_wp2_with (first
                  | (go_at_call 25; refine g1.out.mono ?_; rintro e w1 ⟨rfl, hv1, hs1⟩; obtain ⟨b0, b1, b2⟩ := CB.out w1 hs1; have HV1 := hidIt hv1; have HS1 := hidIt hs1; clear hv1 hs1 g1)
                  | (go_at_call 40; refine (g3.out _ HV1.out).mono ?_; rintro e w2 ⟨rfl, hv2, hs2⟩; have Q := hidIt (GO.out w2 hv2 (HS1.out.trans hs2) HG.out); clear hv2 hs2))
                exact ⟨Q.out, by rw [W1.out]; simp [intOf]; omega⟩
              | none =>
                rw [hl2] at hgr g3
                simp only [Option.isSome_none, Bool.false_eq_true, if_false] at hgr
                have HG := hidIt hgr
                clear hgr GO
                go_wp2_with (first
                  | (go_at_call 25; refine g1.out.mono ?_; rintro e w1 ⟨rfl, hv1, hs1⟩; obtain ⟨b0, b1, b2⟩ := CB.out w1 hs1; have HV1 := hidIt hv1; have HS1 := hidIt hs1; clear hv1 hs1 g1)
                  | (go_at_call 40; refine (g3.out _ HV1.out).mono ?_; rintro e w2 ⟨rfl, hv2, hs2⟩; obtain ⟨g4, cap4, es, clk, -, p0, p2, hput, hvp, hsp⟩ := PUT.out w2 hv2 hl2; obtain ⟨q0, q1, q2⟩ := CB.out w2 (HS1.out.trans hs2); have Q := hidIt (GP.out _ hvp ((HS1.out.trans hs2).trans hsp) HG.out); clear hv2 hs2 hvp hsp))
                go_region
                go_wp2_with fail
                exact ⟨Q.out, by rw [W1.out]; simp [intOf]; omega⟩
            · rw [if_neg hid] at hgr
              have hid' : (id != c1) = true := by simp [hid]
              cases hgr
              clear GP PUT GO g2
              go_wp2_with (go_at_call 25; refine g1.out.mono ?_; rintro e w1 ⟨rfl, hv1, hs1⟩; obtain ⟨b0, b1, b2⟩ := CB.out w1 hs1; have HV1 := hidIt hv1; have HS1 := hidIt hs1; clear hv1 hs1 g1)
              go_ret
              exact ⟨rfl, HV1.out, F.out.1.trans (HSr.out.trans HS1.out)⟩
        · obtain rfl : k = ln := by omega
          have hlt2' : ¬ (k : Int) < (k : Int) := by omega
          rw [← hLn, List.drop_length] at hgr
          cases hgr
          go_wp2_with fail
          go_ret
          exact ⟨rfl, HVr.out, F.out.1.trans HSr.out⟩
end Go.Proofs.Ytacmooknfbjpeaa.J
