import Derived.Test.YtpehimfnkmepnaaGreatBx40
import Derived.Test.YtpehimfnkmepnaaGreatBx20
set_option maxRecDepth 8000
set_option maxHeartbeats 40000000
namespace Go.Proofs.YtpehimfnkmepnaaGreat.M
open Go.RowKit
def qc (c : CD) : Q.CD := ⟨c.kind, c.n, c.cls, c.nm, c.dsc⟩
theorem qc_ok {c : CD} (h : P3.CD.Ok c) : (qc c).Ok := ⟨⟨h.c3, h.c4, h.c5⟩, h.nlo, h.nhi⟩
theorem zKq {α : Type} (f : α → List Value) (k : Nat) : ∀ (l : List α) (_ : ∀ x ∈ l, (f x).length = k) (j : Nat) (x : α) (i : Nat), l[j]? = some x → i < k → (l.flatMap f)[j * k + i]? = (f x)[i]?
 | [], _, _, _, _, h, _ => by simp at h
 | y :: l, hk, 0, x, i, h, hi => by simp at h; subst h; rw [List.flatMap_cons, Nat.zero_mul, Nat.zero_add, List.getElem?_append_left (by rw [hk y (by simp)]; exact hi)]
 | y :: l, hk, j + 1, x, i, h, hi => by
   have := zKq f k l (fun z hz => hk z (by simp [hz])) j x i (by simpa using h) hi
   have e : (j + 1) * k = j * k + k := Nat.succ_mul j k
   have hy := hk y (by simp)
   rw [List.flatMap_cons, List.getElem?_append_right (by rw [hy]; omega), show (j + 1) * k + i - (f y).length = j * k + i by rw [hy]; omega]
   exact this
theorem zP2 {w : World} {B T k n g cap : Nat} {xs : List Value} (h : w.ownsRow B T k (.slice (some ⟨g, 0, none⟩) n cap) n xs) {j : Nat} {u : Value} (hj : xs[j]? = some u) : w.cell? ⟨g, j, none⟩ = some u := by
 have := h.cells (g := g) rfl j u hj
 have e : (⟨g, 0, none⟩ : Addr).add j = ⟨g, j, none⟩ := by unfold Addr.add; split <;> simp_all
 rw [e] at this
 exact this
theorem zL2 {α β : Type} {w : World} {B T k : Nat} {v : Value} (f : α → List Value) (l : List α) (hk : ∀ x ∈ l, (f x).length = k) (m : List β) (R : World → List Value → β → Prop) (h : w.ownsRow B T k v l.length (l.flatMap f)) (hml : m.length = l.length) (hR : ∀ (j : Nat) x y, l[j]? = some x → m[j]? = some y → R w (f x) y) :
 ∃ ao c, v = .slice ao m.length c ∧ Q.LAt k R w ao c m := by
 have hrow : ∀ i y, m[i]? = some y → R w ((l[i]?).elim [] f) y := fun i y hy => by
  have hi := (List.getElem?_eq_some_iff.1 hy).1
  obtain ⟨x, hx⟩ : ∃ x, l[i]? = some x := ⟨_, List.getElem?_eq_getElem (by omega)⟩
  rw [hx]
  exact hR i x y hx hy
 rcases h.2 with ⟨rfl, h0⟩ | ⟨g, cap, cur, rfl, hB, hg, h1, h2, _⟩
 · refine ⟨none, 0, by rw [hml, h0], by rw [hml, h0]; exact Nat.le_refl _, by unfold maxLen; omega, fun i => (l[i]?).elim [] f, fun hn => absurd hn (by omega), hrow⟩
 · refine ⟨_, cap, by rw [hml], by rw [hml]; exact h1, h2, fun i => (l[i]?).elim [] f, fun hn => ⟨g, 0, rfl, (Array.getElem?_eq_some_iff.1 hg).1, fun j hj i u hu => ?_⟩, hrow⟩
   obtain ⟨x, hx⟩ : ∃ x, l[j]? = some x := ⟨_, List.getElem?_eq_getElem (by omega)⟩
   have hu' : (f x)[i]? = some u := by simpa [hx] using hu
   have hi : i < k := by have := (List.getElem?_eq_some_iff.1 hu').1; rwa [hk x (List.mem_of_getElem? hx)] at this
   rw [show 0 + j * k + i = j * k + i by omega]
   exact zP2 h (by rw [zKq f k l hk j x i hx hi]; exact hu')
theorem zM5 {w : World} {g T : Nat} (l : List ByteArray) (h : w.heap[g]? = some (.cells (l.map Value.string).toArray T (0, 0))) (hs : ∀ s ∈ l, s.size ≤ 1000) (hl : l.length ≤ 1000) : Q.LAt 1 Q.zD7 w (some ⟨g, 0, none⟩) l.length l := by
 refine ⟨Nat.le_refl _, by unfold maxLen; omega, fun i => [.string (l.getD i ⟨#[]⟩)], fun _ => ⟨g, 0, rfl, (Array.getElem?_eq_some_iff.1 h).1, fun j hj i u hu => ?_⟩, fun i x hx => ⟨by simp [hx], by have := hs x (List.mem_of_getElem? hx); omega⟩⟩
 obtain rfl : i = 0 := by have := (List.getElem?_eq_some_iff.1 hu).1; simp at this; omega
 simp at hu
 subst hu
 refine zA1 h _ ?_
 simp [hj]
def zLw : Bool → List ByteArray
 | true => [⟨#[73]⟩, ⟨#[73]⟩, ⟨#[73]⟩, ⟨#[73]⟩]
 | false => [⟨#[73]⟩, ⟨#[73]⟩, ⟨#[73]⟩, ⟨#[73]⟩, ⟨#[76, 65, 59]⟩, ⟨#[76, 65, 59]⟩, ⟨#[91, 73]⟩, ⟨#[76, 84, 104, 114, 111, 119, 97, 98, 108, 101, 59]⟩, ⟨#[76, 84, 59]⟩, ⟨#[91, 76, 65, 59]⟩]
theorem zN4 (pl : Bool) : zBj pl = (zLw pl).map Value.string := by cases pl <;> rfl
theorem zLs (pl : Bool) : ∀ s ∈ zLw pl, s.size ≤ 1000 := by cases pl <;> decide
def thrT : ByteArray := ⟨#[76, 84, 104, 114, 111, 119, 97, 98, 108, 101, 59]⟩
def rdOf (pl : Bool) (z : Int × Bool) : Q.RD := ⟨z.1, zLw pl, if z.2 then [thrT] else []⟩
def hdOf (h : HN) : Q.HD := ⟨h.f, h.t, h.a, h.ty⟩
def mdOf (k : BK) (σ : SG) : Q.MD := ⟨k.nm, k.ds, k.st, false, 16, ((zBj k.pl).length : Nat), (encL (zHh σ) []).1, (zG9 σ).map hdOf, (zHk σ).map (rdOf k.pl)⟩
theorem fr_row {pl : Bool} {w : World} {y : FM} {z : Int × Bool} (h : FR1 pl w y z) : Q.zBi w (frow y) (rdOf pl z) := by
 obtain ⟨z1, z2⟩ := z
 obtain ⟨h1, ⟨g, h2, h3⟩, h4⟩ := h
 have hl : Q.LAt 1 Q.zD7 w (some ⟨g, 0, none⟩) (zLw pl).length (zLw pl) := zM5 _ (by rw [← zN4]; exact h3) (zLs pl) (by cases pl <;> decide)
 cases z2
 · refine ⟨_, _, none, 0, ?_, hl, Q.LAt.nil _ _ _ _ _ (by unfold maxLen; omega)⟩
   have h4' : y.st = .slice none 0 0 := h4
   have h1' : y.at_ = z1 := h1
   unfold frow
   rw [h1', h2, h4', zN4, List.length_map]
   rfl
 · obtain ⟨g2, h5, h6⟩ := h4
   have hl2 : Q.LAt 1 Q.zD7 w (some ⟨g2, 0, none⟩) [thrT].length [thrT] := zM5 [thrT] (T := 9) h6 (by decide) (by decide)
   refine ⟨_, _, _, _, ?_, hl, hl2⟩
   have h1' : y.at_ = z1 := h1
   unfold frow
   rw [h1', h2, h5, zN4, List.length_map]
   rfl
theorem zS4 {w : World} {b : Nat} {k : BK} {σ : SG} {row : Array Value} (h : zI1 w b k σ row) : Q.zBk w row.toList (mdOf k σ) := by
 obtain ⟨vc, vh, vf, fs, rfl, h1, h2, h3, h4⟩ := h
 obtain ⟨o2, c2, rfl, l2⟩ := zL2 (k := 4) hrow (zG9 σ) (fun _ _ => rfl) ((zG9 σ).map hdOf) Q.zJf h2 (by simp) (fun j x y hx hy => by
  rw [List.getElem?_map, hx] at hy
  cases hy
  refine ⟨rfl, ?_⟩
  have : x ∈ zG9 σ := List.mem_of_getElem? hx
  unfold zG9 at this
  obtain ⟨t, _, rfl⟩ := List.mem_map.1 this
  show (⟨#[84, 104, 114, 111, 119, 97, 98, 108, 101]⟩ : ByteArray).size ≤ 9223372036854775807
  decide)
 obtain ⟨o3, c3, rfl, l3⟩ := zL2 (k := 3) frow fs (fun _ _ => rfl) ((zHk σ).map (rdOf k.pl)) Q.zBi h3 (by rw [List.length_map, h4.1]) (fun j x y hx hy => by
  rw [List.getElem?_map] at hy
  obtain ⟨z, hz, rfl⟩ := Option.map_eq_some_iff.1 hy
  exact fr_row (h4.2 j x z hx hz))
 have hv : Q.View w vc (encL (zHh σ) []).1 := by
  have hb := zM8 (zHh σ) [] (fun x hx => by simp at hx)
  rcases h1.2 with ⟨rfl, h0⟩ | ⟨g, cap, cur, rfl, hB, hg, k1, k2, _⟩
  · exact ⟨none, 0, by rw [h0], by rw [h0]; exact Nat.le_refl _, by unfold maxLen; omega, hb, .inl (List.length_eq_zero_iff.1 h0)⟩
  · refine ⟨_, cap, rfl, k1, k2, hb, .inr ⟨g, 0, rfl, fun j x hj => ?_⟩⟩
    rw [Nat.zero_add]
    exact zP2 h1 (by unfold zAh; rw [List.getElem?_map, hj]; rfl)
 obtain ⟨o1, c1, rfl⟩ : ∃ o c, vc = .slice o (encL (zHh σ) []).1.length c := by obtain ⟨o, c, e, _⟩ := hv; exact ⟨o, c, e⟩
 refine ⟨o1, c1, o2, c2, o3, c3, rfl, ?_, ?_, hv, l2, l3⟩
 · show k.nm.size ≤ 9223372036854775807
   cases k <;> decide
 · show k.ds.size ≤ 9223372036854775807
   cases k <;> decide
def fdOf (f : ByteArray × ByteArray × Bool) : Q.FD := ⟨f.1, f.2.1, f.2.2⟩
def kdOf (nm sup : ByteArray) (fs : List (ByteArray × ByteArray × Bool)) (pool : List CD) (ms : List (BK × SG)) : Q.KD := ⟨nm, sup, pool.map qc, fs.map fdOf, ms.map (fun m => mdOf m.1 m.2)⟩
theorem zG0 {w : World} {b : Nat} {c : Array Value} {nm sup : ByteArray} {fs : List (ByteArray × ByteArray × Bool)} {pool : List CD} {ms : List (BK × SG)} (h : zBz w b c nm sup fs pool ms) (h1 : nm.size ≤ 1000) (h2 : sup.size ≤ 1000) (h3 : ∀ f ∈ fs, f.1.size ≤ 1000 ∧ f.2.1.size ≤ 1000) (h4 : fs.length ≤ 1000) : Q.zAg w (.agg c) (kdOf nm sup fs pool ms) := by
 obtain ⟨vp, vf, vm, rfl, ⟨k1, k2⟩, k3, rows, k4, k5, k6⟩ := h
 obtain ⟨o1, c1, rfl, l1⟩ := zL2 (k := 5) P3.CD.cells pool (fun _ _ => rfl) (pool.map qc) Q.zIo k1 (by simp) (fun j x y hx hy => by
  rw [List.getElem?_map, hx] at hy
  cases hy
  exact ⟨rfl, qc_ok (k2 x (List.mem_of_getElem? hx))⟩)
 rw [← k4] at k5
 obtain ⟨o3, c3, rfl, l3⟩ := zL2 (k := 9) Array.toList rows (fun r hr => by
  obtain ⟨j, hj⟩ := List.getElem?_of_mem hr
  have hlt := (List.getElem?_eq_some_iff.1 hj).1
  obtain ⟨m, hm⟩ : ∃ m, ms[j]? = some m := ⟨_, List.getElem?_eq_getElem (by omega)⟩
  obtain ⟨_, _, _, _, rfl, _⟩ := k6 j m r hm hj
  rfl) (ms.map (fun m => mdOf m.1 m.2)) Q.zBk k5 (by simp [k4]) (fun j x y hx hy => by
  rw [List.getElem?_map] at hy
  obtain ⟨m, hm, rfl⟩ := Option.map_eq_some_iff.1 hy
  exact zS4 (k6 j m _ hm hx))
 obtain ⟨o2, c2, rfl, l2⟩ : ∃ o c, vf = .slice o (fs.map fdOf).length c ∧ Q.LAt 3 Q.zH2 w o c (fs.map fdOf) := by
  rcases k3 with ⟨rfl, rfl⟩ | ⟨g, rfl, hg⟩
  · exact ⟨none, 0, rfl, Q.LAt.nil _ _ _ _ _ (by unfold maxLen; omega)⟩
  · refine ⟨some ⟨g, 0, none⟩, fs.length, by rw [List.length_map], by simp, by unfold maxLen; omega, fun i => (fs[i]?).elim [] zRh, fun _ => ⟨g, 0, rfl, (Array.getElem?_eq_some_iff.1 hg).1, fun j hj i u hu => ?_⟩, fun i y hy => ?_⟩
    · rw [List.length_map] at hj
      obtain ⟨x, hx⟩ : ∃ x, fs[j]? = some x := ⟨_, List.getElem?_eq_getElem hj⟩
      have hu' : (zRh x)[i]? = some u := by simpa [hx] using hu
      have hi : i < 3 := (List.getElem?_eq_some_iff.1 hu').1
      refine zA1 hg _ ?_
      rw [show 0 + j * 3 + i = j * 3 + i by omega, List.getElem?_toArray, zKq zRh 3 fs (fun _ _ => rfl) j x i hx hi]
      exact hu'
    · rw [List.getElem?_map] at hy
      obtain ⟨x, hx, rfl⟩ := Option.map_eq_some_iff.1 hy
      show Q.zH2 w ((fs[i]?).elim [] zRh) (fdOf x)
      rw [hx]
      have := h3 x (List.mem_of_getElem? hx)
      exact ⟨rfl, by show x.1.size ≤ _; omega, by show x.2.1.size ≤ _; omega⟩
 exact ⟨o1, c1, o2, c2, o3, c3, rfl, by show nm.size ≤ _; omega, by show sup.size ≤ _; omega, l1, l2, l3⟩
end Go.Proofs.YtpehimfnkmepnaaGreat.M
namespace Go.Proofs.YtpehimfnkmepnaaGreat.K
open Go.RowKit Q Q.D
theorem zW4 : (Tryz.prog.info? 31).map (fun i => (i.zero, i.size, i.bytes)) = some (some (.agg #[.string ⟨#[]⟩, .string ⟨#[]⟩, .slice none 0 0, .slice none 0 0, .slice none 0 0]), 5, 104) := by kernel_rfl
def old (n0 : Nat) (b : Nat) : Bool := decide (b < n0)
theorem zGf {w : World} {b : Nat} {r : Array Value} {nm sup : ByteArray} {fs : List (ByteArray × ByteArray × Bool)} {pool : List M.CD} {ms : List (M.BK × M.SG)} (h : M.zBz w b r nm sup fs pool ms) : r.size = 5 ∧ ∀ u ∈ r.toList, u.oneCell' = true := by
 obtain ⟨vp, vf, vm, rfl, ⟨h1, _⟩, h2, rows, _, h4, _⟩ := h
 obtain ⟨_, _, rfl⟩ := M.zA4 h1
 obtain ⟨_, _, rfl⟩ := M.zA4 h4
 have hf : ∃ a n c, vf = .slice a n c := by
  rcases h2 with ⟨_, rfl⟩ | ⟨g, rfl, _⟩
  · exact ⟨_, _, _, rfl⟩
  · exact ⟨_, _, _, rfl⟩
 obtain ⟨_, _, _, rfl⟩ := hf
 refine ⟨rfl, fun u hu => ?_⟩
 simp at hu
 rcases hu with rfl | rfl | rfl | rfl | rfl <;> rfl
theorem zJ5 {X : Nat → Bool} {w : World} {g : Nat} (h : X g = true) : (seen X w).heap[g]? = w.heap[g]? := by
 unfold seen
 simp only [Array.getElem?_mapIdx]
 cases w.heap[g]? with
 | none => rfl
 | some o => simp [h]
theorem zQn {X : Nat → Bool} {w : World} {T : TypeId} (h : ∀ g cur, w.heap[g]? = some (.cells cur T (0, 0)) → X g = true) : M.Same T w (seen X w) := fun g cur hg => by rw [zJ5 (h g cur hg)]; exact hg
theorem zVu {X : Nat → Bool} {w : World} {pl : Bool} {y : M.FM} {z : Int × Bool} (h : M.FR1 pl w y z) (hs : ∀ (g : Nat) (cur : Array Value), w.heap[g]? = some (.cells cur 9 (0, 0)) → cur[0]? ≠ some (.string zAc) → X g = true) : M.FR1 pl (seen X w) y z := by
 obtain ⟨z1, z2⟩ := z
 obtain ⟨h1, ⟨g, h2, h3⟩, h4⟩ := h
 refine ⟨h1, ⟨g, h2, by rw [zJ5 (hs g _ h3 (by cases pl <;> exact fun e => absurd (Value.string.inj (Option.some.inj e)) (by decide)))]; exact h3⟩, ?_⟩
 cases z2
 · exact h4
 · obtain ⟨g, h5, h6⟩ := h4
   exact ⟨g, h5, by rw [zJ5 (hs g _ h6 (fun e => absurd (Value.string.inj (Option.some.inj e)) (by decide)))]; exact h6⟩
theorem zNh {n0 : Nat} {w : World} {pk mb : Nat} {v : Value} {R : List Mem} (h : KinO n0 w pk mb v R) {R' : List KD} (hR : R.reverse.map Mem.k = zB8 :: R') {g : Nat} (hg : v.ownBlock = some g) : ∃ cur, w.heap[g]? = some (.cells cur 9 (0, 0)) ∧ cur[0]? = some (.string zAc) := by
 have hl : 0 < R.length := by
  have := congrArg List.length hR
  simp at this
  omega
 rcases h.own.2 with ⟨rfl, _⟩ | ⟨g', cap, cur, rfl, _, hc, h1, h2, h3, h4⟩
 · simp [Value.ownBlock] at hg
 · simp [Value.ownBlock] at hg
   subst hg
   refine ⟨cur, hc, ?_⟩
   have e : (zCa R)[0]? = some (.string zAc) := by
    have : zCa R = (R.reverse.map Mem.k).map (fun k => .string k.nm) := by simp [zCa]
    rw [this, hR]
    rfl
   rw [← h4, List.getElem?_take, if_pos (by omega), Array.getElem?_toList] at e
   exact e
theorem nv_up {B B' : Nat} {w w' : World} {v : Value} {l : List Int} (h : M.NV B B w v l) (hb : Below B w w') (hB : B ≤ B') : M.NV B' B' w' v l := by
 obtain ⟨ao, cap, e, hc, hm, hx, hl⟩ := h
 refine ⟨ao, cap, e, hc, hm, hx, ?_⟩
 rcases hl with h | ⟨g, off, e, hg, hp, hl⟩
 · exact .inl h
 · exact .inr ⟨g, off, e, by omega, by omega, fun j x hj => (World.cell?_of_block (a := ⟨g, off + j, none⟩) (hb.block g hg)).trans (hl j x hj)⟩
theorem zN7 {n0 : Nat} {w w' : World} {pk mb : Nat} {v : Value} {R : List Mem} (h : KinO n0 w pk mb v R) (st : zGi pk mb v w w') {T : TypeId} (h1 : T ≠ 9) (h2 : T ≠ 99) : M.Same T w w' := fun g cur hg => by
 rw [st.block g (Array.getElem?_eq_some_iff.1 hg).1 ?_ ?_ ?_]
 · exact hg
 · rintro rfl
   have hb : _ = _ := h.box
   rw [hb] at hg
   cases hg
   exact h2 rfl
 · rintro rfl
   obtain ⟨es, n, hm, _⟩ := h.map
   rw [hm] at hg
   cases hg
 · intro e
   rcases h.own.2 with ⟨rfl, _⟩ | ⟨g', cap, cur', rfl, _, hc, _⟩
   · simp [Value.ownBlock] at e
   · simp [Value.ownBlock] at e
     subst e
     rw [hc] at hg
     cases hg
     exact h1 rfl
theorem zOn {w : World} {B : Nat} {v : Value} {l : List ByteArray} (h : w.ownsRow B 9 1 v l.length (l.map Value.string)) : ∃ ao cap, v = .slice ao l.length cap ∧ ∀ (j : Nat) x, l[j]? = some x → ∃ g, ao = some ⟨g, 0, none⟩ ∧ g < w.heap.size ∧ w.cell? ⟨g, j, none⟩ = some (.string x) := by
 by_cases h0 : l.length = 0
 · rcases h.2 with ⟨rfl, _⟩ | ⟨g, cap, cur, rfl, _⟩
   · exact ⟨none, 0, by rw [h0], fun j x hj => by have := (List.getElem?_eq_some_iff.1 hj).1; omega⟩
   · exact ⟨_, cap, rfl, fun j x hj => by have := (List.getElem?_eq_some_iff.1 hj).1; omega⟩
 · obtain ⟨g, cap, rfl⟩ := zBs h (by omega)
   refine ⟨_, cap, rfl, fun j x hj => ⟨g, rfl, (h.lt g rfl).2, ?_⟩⟩
   have hlt := (List.getElem?_eq_some_iff.1 hj).1
   rw [h.cellAt j (by omega), List.getElem?_map, hj]
   rfl
theorem zHd : ∀ {R : List KD} {k : KD}, KWf R → k ∈ R → zB7 R k.nm = some k
 | m :: o, k, hw, h => by
   rcases List.mem_cons.1 h with rfl | h
   · exact zCs rfl
   · rw [zD8 (fun e => zCm hw.1 k h e)]
     exact zHd hw.2.2 h
end Go.Proofs.YtpehimfnkmepnaaGreat.K
namespace Go.Proofs.YtpehimfnkmepnaaGreat.Fr
open Go.RowKit Q Q.D K
theorem zMm (W : World) (row : Array Value) : Blk ((W.alloc (.cells #[.string ⟨#[]⟩, .string ⟨#[]⟩, .slice none 0 0, .slice none 0 0, .slice none 0 0] 31)).setRow W.heap.size row) W.heap.size row 31 ∧ Below W.heap.size W ((W.alloc (.cells #[.string ⟨#[]⟩, .string ⟨#[]⟩, .slice none 0 0, .slice none 0 0, .slice none 0 0] 31)).setRow W.heap.size row) :=
 ⟨setRow_heap _ _ _ _ _ _ (Blk.new W _ _), zB5 (zA6 W _) (Nat.le_refl _) _⟩
def zG6 (L : List KD) (nm ds : ByteArray) : Option MD := L.findSome? (fun k => k.ms.find? (isM nm ds))
def zUz (o : Option MD) (e : Ending) : Prop := ∃ s a0 a1 st a3 a4 a5 a6 a7 a8 has, e = .returned (.tuple #[.string s, .agg #[a0, a1, .bool st, a3, a4, a5, a6, a7, a8], .bool has]) ∧ (has, st) = (match o with | none => (false, false) | some y => (true, y.st)) ∧ ∀ u ∈ [a0, a1, Value.bool st, a3, a4, a5, a6, a7, a8], u.oneCell' = true
theorem blk9 {W : World} {g : Nat} {z0 z1 z2 z3 z4 z5 z6 z7 z8 a0 a1 a2 a3 a4 a5 a6 a7 a8 : Value} (h : Blk W g (((((((((#[z0, z1, z2, z3, z4, z5, z6, z7, z8].setIfInBounds 0 a0).setIfInBounds 1 a1).setIfInBounds 2 a2).setIfInBounds 3 a3).setIfInBounds 4 a4).setIfInBounds 5 a5).setIfInBounds 6 a6).setIfInBounds 7 a7).setIfInBounds 8 a8) 39) : W.drew.heap[g]? = some (.cells #[a0, a1, a2, a3, a4, a5, a6, a7, a8] 39 (0, 0)) := by
 have e : (((((((((#[z0, z1, z2, z3, z4, z5, z6, z7, z8].setIfInBounds 0 a0).setIfInBounds 1 a1).setIfInBounds 2 a2).setIfInBounds 3 a3).setIfInBounds 4 a4).setIfInBounds 5 a5).setIfInBounds 6 a6).setIfInBounds 7 a7).setIfInBounds 8 a8) = #[a0, a1, a2, a3, a4, a5, a6, a7, a8] := by simp
 rw [e] at h
 exact h
theorem World.below_drew9 {B : Nat} {a b : World} (h : Below B a b) : Below B a b.drew := h.drew
theorem zHx {ms : List MD} {nm ds : ByteArray} (h : ∀ m ∈ ms, isM nm ds m = false) : ms.find? (isM nm ds) = none := List.find?_eq_none.2 (fun m hm => by rw [h m hm]; decide)
theorem zHq {ms : List MD} {nm ds : ByteArray} {j : Nat} {y : MD} (hj : ms[j]? = some y) (hy : isM nm ds y = true) (h : ∀ m ∈ ms.take j, isM nm ds m = false) : ms.find? (isM nm ds) = some y := by
 have hlt := (List.getElem?_eq_some_iff.1 hj).1
 have he := (List.getElem?_eq_some_iff.1 hj).2
 rw [← List.take_append_drop j ms, List.find?_append, List.drop_eq_getElem_cons hlt, zHx h, he, List.find?_cons_of_pos hy]
 rfl
theorem zP7 {L : List KD} {nm ds : ByteArray} (h : ∀ k ∈ L, k.ms.find? (isM nm ds) = none) : zG6 L nm ds = none := List.findSome?_eq_none_iff.2 h
theorem zUl {L : List KD} {nm ds : ByteArray} {i : Nat} {k : KD} {y : MD} (hi : L[i]? = some k) (hk : k.ms.find? (isM nm ds) = some y) (h : ∀ x ∈ L.take i, x.ms.find? (isM nm ds) = none) : zG6 L nm ds = some y := by
 have hlt := (List.getElem?_eq_some_iff.1 hi).1
 have he := (List.getElem?_eq_some_iff.1 hi).2
 unfold zG6
 rw [← List.take_append_drop i L, List.findSome?_append, List.drop_eq_getElem_cons hlt, List.findSome?_eq_none_iff.2 h, he, List.findSome?_cons, hk]
 rfl
theorem zNz (w : World) (pk : Nat) (R : List KD) (ao : Option Addr) (c : Nat) (h : RV w pk R.reverse ao c) (hw : KWf R) (he : KEnd R) (hR : R.length ≤ 1000) (cls nm ds : ByteArray) :
 Calls Tryz.prog 83 #[.pointer (some ⟨pk, 0, none⟩), .string cls, .string nm, .string ds] w fun e w' => zUz (zG6 (klin R cls) nm ds) e ∧ Below w.heap.size w w' := by
 have B1 := zA6 w (.cells #[.string ⟨#[]⟩, .string ⟨#[]⟩, .bool false, .bool false, .int .i64 0, .int .i64 0, .slice none 0 0, .slice none 0 0, .slice none 0 0] 39)
 have Y1 := D.zA0 (Blk.new w #[.string ⟨#[]⟩, .string ⟨#[]⟩, .bool false, .bool false, .int .i64 0, .int .i64 0, .slice none 0 0, .slice none 0 0, .slice none 0 0] 39)
 have HRV := D.zA0 (h.below B1)
 have HWf := D.zA0 hw
 have G1 := D.zA0 (zRf _ pk R ao c (h.below B1) hw he hR cls)
 have HB1 := D.zA0 B1
 have hlR : (klin R cls).length ≤ 1000 := Nat.le_trans (zLd R cls) hR
 have HIN : Hid (∀ k ∈ klin R cls, zB7 R k.nm = some k) := fun k hk => zJc hw hk
 clear h hw he B1
 generalize hQ : zG6 (klin R cls) nm ds = Q0 at *
 have HQ := D.zA0 hQ
 clear hQ
 generalize klin R cls = L at *
 go_enter Tryz.func83, Tryz.ntmps83
 go_upto_region 1 with (fail)
 generalize w.alloc (.cells #[.string ⟨#[]⟩, .string ⟨#[]⟩, .bool false, .bool false, .int .i64 0, .int .i64 0, .slice none 0 0, .slice none 0 0, .slice none 0 0] 39) = W1 at *
 go_upto_region 3 with (first | (go_at_call 78; refine G1.out.mono ?_; rintro e W2 ⟨v2, rfl, ho2, b2⟩; obtain ⟨aol, capl, rfl, hc2, hm2, hrow⟩ := trow ho2 (by simp)))
 have HROW := D.zA0 hrow
 have HRV := D.zA0 (HRV.out.below b2)
 have Y2 := D.zA0 (Y1.out.below b2)
 have HB2 := D.zA0 (HB1.out.trans (b2.mono HB1.out.size))
 clear G1 hrow ho2 b2 Y1 HB1
 unfold maxLen at hm2
 rw [List.length_map] at hc2
 go_loopw [12] (fun iv wr => ∃ i : Nat, iv = .int .i64 (i : Int) ∧ i ≤ L.length ∧ Below W2.heap.size W2 wr ∧ ∀ x ∈ L.take i, x.ms.find? (isM nm ds) = none) (fun iv _ => L.length - (intOf iv).toNat)
 case atStart => exact ⟨0, rfl, Nat.zero_le _, Below.refl _ _, by simp⟩
 case round =>
  obtain ⟨i, rfl, hi, hb, hall⟩ := hrel
  have HB := D.zA0 hb
  have HALL := D.zA0 hall
  clear hall
  by_cases hlt : i < L.length
  · have hlt' : (i : Int) < (L.length : Int) := by omega
    have hLi : L[i]? = some L[i] := List.getElem?_eq_getElem hlt
    obtain ⟨gl, eg, hcl⟩ := HROW.out i L[i].nm (by rw [List.getElem?_map, hLi]; rfl)
    subst eg
    have hkf := HIN.out _ (List.getElem_mem hlt)
    obtain ⟨m, hm, hne⟩ := zIi HWf.out hkf
    have c0 := cell_later hb hcl
    have HCL := D.zA0 hcl
    have HLI := D.zA0 hLi
    clear hLi hkf hcl
    generalize L[i] = k at *
    have GG := D.zA0 (zId wr pk R.reverse ao c (HRV.out.below hb) k.nm m k hm rfl hne)
    clear hm hne hb
    rw [Nat.zero_add] at c0
    go_upto_region 6 with (first
     | (go_at_call 69; refine GG.out.mono ?_; rintro e w3 ⟨b3, v3, rfl, hc3⟩; obtain ⟨q1, e1, q2, e2, q3, e3, rfl, _, _, _, _, K3⟩ := hc3)
     | (refine wpList_store_row rfl 31 _ _ rfl w3.heap.size #[.string k.nm, .string k.sup, .slice q1 k.pool.length e1, .slice q2 k.fs.length e2, .slice q3 k.ms.length e3] rfl rfl 31 _ (Blk.new w3 _ _) (by kernel_rfl) rfl (by simp [Value.oneCell']) ?_))
    obtain ⟨CX, b4⟩ := zMm w3 #[.string k.nm, .string k.sup, .slice q1 k.pool.length e1, .slice q2 k.fs.length e2, .slice q3 k.ms.length e3]
    have b5 := b3.trans (b4.mono b3.size)
    have HB5 := D.zA0 (HB.out.trans (b5.mono HB.out.size))
    have HCX := D.zA0 CX
    have HK3 := D.zA0 (K3.below b4 (fun _ _ h => h.below b4))
    have hbm := K3.big
    clear GG c0 b3 b4 b5 CX K3
    generalize (w3.alloc (.cells #[.string ⟨#[]⟩, .string ⟨#[]⟩, .slice none 0 0, .slice none 0 0, .slice none 0 0] 31)).setRow w3.heap.size #[.string k.nm, .string k.sup, .slice q1 k.pool.length e1, .slice q2 k.fs.length e2, .slice q3 k.ms.length e3] = W5 at *
    generalize w3.heap.size = bc at *
    go_upto_region 7 with (fail)
    obtain ⟨Wx, hWx⟩ : ∃ W, W = wr := ⟨_, rfl⟩
    subst hWx
    go_loopw [15] (fun iv wr => ∃ j : Nat, iv = .int .i64 (j : Int) ∧ j ≤ k.ms.length ∧ Below W5.heap.size W5 wr ∧ ∀ y ∈ k.ms.take j, isM nm ds y = false) (fun iv _ => k.ms.length - (intOf iv).toNat)
    case atStart => exact ⟨0, rfl, Nat.zero_le _, Below.refl _ _, by simp⟩
    case round =>
     obtain ⟨j, rfl, hj, hb, hal⟩ := hrel
     have HBj := D.zA0 hb
     have HAL := D.zA0 hal
     have x4 := (HCX.out.below hb).cell 4
     simp at x4
     by_cases hlt2 : j < k.ms.length
     · have hlt2' : (j : Int) < (k.ms.length : Int) := by omega
       obtain ⟨b, off, r, e, hMR, d⟩ := zDd (HK3.out.below hb (fun _ _ h => h.below hb)) j hlt2
       cases e
       have hji : k.ms[j]? = some k.ms[j] := List.getElem?_eq_getElem hlt2
       have hnx : (∀ y ∈ k.ms.take (j + 1), isM nm ds y = false) ↔ isM nm ds k.ms[j] = false := by
        rw [List.take_add_one, List.getElem?_eq_getElem hlt2]
        simp only [Option.toList_some, List.mem_append, List.mem_singleton]
        exact ⟨fun h => h _ (.inr rfl), fun h x hx => hx.elim (fun hx => hal x hx) (fun e => e ▸ h)⟩
       have HNX := D.zA0 hnx
       have HJI := D.zA0 hji
       clear hnx hji hal
       generalize k.ms[j] = y at *
       obtain ⟨j1, i1, j2, i2, j3, i3, er, _⟩ := hMR
       subst er
       have p0 := d 0 _ rfl
       have p1 := d 1 _ rfl
       have p2 := d 2 _ rfl
       have p3 := d 3 _ rfl
       have p4 := d 4 _ rfl
       have p5 := d 5 _ rfl
       have p6 := d 6 _ rfl
       have p7 := d 7 _ rfl
       have p8 := d 8 _ rfl
       rw [Nat.add_zero] at p0
       have hsm : Hid (isM nm ds y = ((y.nm.toList == nm.toList) && (y.ds.toList == ds.toList))) := rfl
       clear d
       cases t1 : (y.nm.toList == nm.toList)
       · rw [t1] at hsm
         go_wp2_with fail
         go_roundw
         case rel => exact ⟨j + 1, by go_num, by omega, HBj.out, HNX.out.2 hsm.out⟩
         case measure => simp [intOf]; omega
       · cases t2 : (y.ds.toList == ds.toList)
         · rw [t1, t2] at hsm
           go_wp2_with fail
           go_roundw
           case rel => exact ⟨j + 1, by go_num, by omega, HBj.out, HNX.out.2 hsm.out⟩
           case measure => simp [intOf]; omega
         · rw [t1, t2] at hsm
           have bb := HB5.out.trans (hb.mono HB5.out.size)
           have c0 := cell_later bb HCL.out
           rw [Nat.zero_add] at c0
           have hYb := Y2.out.below bb
           have HBB := D.zA0 (HB2.out.trans (bb.mono HB2.out.size))
           have z0 := hYb.cell 0
           have z1 := hYb.cell 1
           have z2 := hYb.cell 2
           have z3 := hYb.cell 3
           have z4 := hYb.cell 4
           have z5 := hYb.cell 5
           have z6 := hYb.cell 6
           have z7 := hYb.cell 7
           have z8 := hYb.cell 8
           have f0 := hYb.frozen 0
           have f1 := hYb.frozen 1
           have f2 := hYb.frozen 2
           have f3 := hYb.frozen 3
           have f4 := hYb.frozen 4
           have f5 := hYb.frozen 5
           have f6 := hYb.frozen 6
           have f7 := hYb.frozen 7
           have f8 := hYb.frozen 8
           simp at z0 z1 z2 z3 z4 z5 z6 z7 z8
           have HYB := D.zA0 hYb
           clear hYb hb bb
           go_upto_region 10 with (fail)
           go_region
           all_goals (
            go_wp2_with fail
            have Y9 := (((((((((HYB.out.set 0 (.string y.nm)).set 1 (.string y.ds)).set 2 (.bool y.st)).set 3 (.bool y.nat)).set 4 (.int .i64 y.stk)).set 5 (.int .i64 y.loc)).set 6 (.slice j1 y.code.length i1)).set 7 (.slice j2 y.hs.length i2)).set 8 (.slice j3 y.rs.length i3))
            have Y9 := D.zA0 (blk9 Y9)
            refine bodyPost_ret (zF3 rfl _ _ w.heap.size 39 _ (0, 0) _ rfl Y9.out Tryz.underlying39 rfl (by kernel_rfl)) rfl ?_
            have hq := zUl HLI.out (zHq HJI.out hsm.out HAL.out) HALL.out
            rw [HQ.out] at hq
            rw [hq]
            refine ⟨⟨_, _, _, _, _, _, _, _, _, _, _, rfl, rfl, by simp [Value.oneCell']⟩, ?_⟩
            exact World.below_drew9 (zAa (zAa (zAa (zAa (zAa (zAa (zAa (zAa (zAa HBB.out (Nat.le_refl _) _ _) (Nat.le_refl _) _ _) (Nat.le_refl _) _ _) (Nat.le_refl _) _ _) (Nat.le_refl _) _ _) (Nat.le_refl _) _ _) (Nat.le_refl _) _ _) (Nat.le_refl _) _ _) (Nat.le_refl _) _ _))
     · have hlt2' : ¬ (j : Int) < (k.ms.length : Int) := by omega
       obtain rfl : j = k.ms.length := by omega
       rw [List.take_length] at HAL
       have HNO := D.zA0 (zHx HAL.out)
       go_wp2_with fail
       go_roundw
       case rel =>
        refine ⟨i + 1, by go_num, by omega, HB5.out.trans (HBj.out.mono HB5.out.size), fun x hx => ?_⟩
        rw [List.take_add_one, HLI.out] at hx
        simp only [Option.toList_some, List.mem_append, List.mem_singleton] at hx
        rcases hx with hx | rfl
        · exact HALL.out x hx
        · exact HNO.out
       case measure => simp [intOf]; omega
  · have hlt' : ¬ (i : Int) < (L.length : Int) := by omega
    obtain rfl : i = L.length := by omega
    rw [List.take_length] at HALL
    have hq := zP7 HALL.out
    rw [HQ.out] at hq
    have HQ0 := D.zA0 hq
    have Y3 := Y2.out.below hb
    clear hq
    go_wp2_with (refine wpList_store_row rfl 39 _ _ rfl w.heap.size #[.string ⟨#[]⟩, .string ⟨#[]⟩, .bool false, .bool false, .int .i64 0, .int .i64 0, .slice none 0 0, .slice none 0 0, .slice none 0 0] rfl rfl 39 _ Y3 (by kernel_rfl) rfl (by simp [Value.oneCell']) ?_)
    refine bodyPost_ret (zF3 rfl _ _ w.heap.size 39 _ (0, 0) _ rfl (setRow_heap _ _ _ _ _ _ Y3) Tryz.underlying39 rfl (by kernel_rfl)) rfl ?_
    refine ⟨?_, zB5 (HB2.out.trans (HB.out.mono HB2.out.size)) (Nat.le_refl _) _⟩
    rw [HQ0.out]
    exact ⟨_, _, _, _, _, _, _, _, _, _, _, rfl, rfl, by simp [Value.oneCell']⟩
theorem zBo {c : Prop} [Decidable c] {z a : Int} (hz : z ≠ 0) : (if c then z else a) = 0 ↔ ¬ c ∧ a = 0 := by
 by_cases h : c
 · rw [if_pos h]
   exact ⟨fun e => absurd e hz, fun e => absurd h e.1⟩
 · rw [if_neg h]
   exact ⟨fun e => ⟨h, e⟩, fun e => e.2⟩
theorem zVa {n m : Int} : inB n m = true ↔ 0 ≤ n ∧ n ≤ m := by simp [inB]
theorem zPf (m : MD) : zIt m = 0 ↔ (∀ h ∈ m.hs, zHm h = true) ∧ (∀ f ∈ m.rs, zG5 f = true) ∧ ∀ f ∈ m.rs, f.loc.length ≤ 16 ∧ f.stk.length ≤ 16 ∧ ∀ s ∈ f.loc ++ f.stk, zCy s = true := by
 unfold zIt
 rw [zBo (by decide), zBo (by decide), zBo (by decide)]
 simp only [Bool.not_eq_false, Bool.and_eq_true, List.all_eq_true, and_true]
 constructor
 · rintro ⟨⟨h1, h2⟩, h3, h4⟩
   refine ⟨h1, h2, fun f hf => ?_⟩
   have a := h3 f hf
   have b := h4 f hf
   simp only [zNb, Bool.and_eq_true, decide_eq_true_eq] at a
   simp only [zKf, Bool.and_eq_true, List.all_eq_true] at b
   exact ⟨a.1, a.2, fun s hs => (List.mem_append.1 hs).elim (b.1 s) (b.2 s)⟩
 · rintro ⟨h1, h2, h3⟩
   refine ⟨⟨h1, h2⟩, fun f hf => ?_, fun f hf => ?_⟩
   · simp only [zNb, Bool.and_eq_true, decide_eq_true_eq]
     exact ⟨(h3 f hf).1, (h3 f hf).2.1⟩
   · simp only [zKf, Bool.and_eq_true, List.all_eq_true]
     exact ⟨fun s hs => (h3 f hf).2.2 s (List.mem_append.2 (.inl hs)), fun s hs => (h3 f hf).2.2 s (List.mem_append.2 (.inr hs))⟩
theorem zLh (m : MD) (ahead : List MD) (hn : m.nat = false) : zGh m ahead = 0 ↔ (zAw (bsB m.nm) = true ∧ zBr m.ds = true) ∧ (∀ g ∈ ahead, zHs m g = false) ∧ okM m := by
 unfold zGh
 rw [zBo (by decide), zBo (by decide), zBo (by decide), zBo (by decide), zBo (by decide), zPf, hn]
 simp only [Bool.not_eq_false, Bool.and_eq_true, Bool.not_eq_true, List.any_eq_false, zVa, decide_eq_true_eq, Bool.false_eq_true, false_and, not_false_eq_true, true_and]
 constructor
 · rintro ⟨h1, h2, ⟨⟨a1, a2⟩, ⟨a3, a4⟩, a5⟩, ⟨h, r⟩, hb, pb, sb⟩
   exact ⟨h1, h2, ⟨a1, a2, a3, a4, a5, h, r, hb, pb, sb⟩⟩
 · rintro ⟨h1, h2, o⟩
   exact ⟨h1, h2, ⟨⟨o.a1, o.a2⟩, ⟨o.a3, o.a4⟩, o.a5⟩, ⟨o.h, o.r⟩, o.hb, o.pb, o.sb⟩
theorem zK8 (f : FD) (ahead : List FD) : zFf f ahead = 0 ↔ (zAw (bsB f.nm) = true ∧ zAp (bsB f.ds) = true) ∧ ∀ g ∈ ahead, zHr f g = false := by
 unfold zFf
 rw [zBo (by decide), zBo (by decide)]
 simp only [Bool.not_eq_false, Bool.and_eq_true, Bool.not_eq_true, List.any_eq_false, and_true]
theorem zJj : ∀ (l a : List FD), zCq a l = 0 ↔ ∀ i f, l[i]? = some f → zFf f (a ++ l.take i) = 0
 | [], a => by simp [zCq]
 | x :: l, a => by
   unfold zCq
   by_cases h : zFf x a = 0
   · rw [if_pos h, zJj l (a ++ [x])]
     constructor
     · intro k i f hf
       cases i with
       | zero => simp at hf; subst hf; simpa using h
       | succ i => have := k i f (by simpa using hf); simpa using this
     · intro k i f hf
       have := k (i + 1) f (by simpa using hf)
       simpa using this
   · rw [if_neg h]
     exact ⟨fun e => absurd e h, fun k => by have := k 0 x rfl; simpa using this⟩
theorem zKb : ∀ (l a : List MD), zEc a l = 0 ↔ ∀ i f, l[i]? = some f → zGh f (a ++ l.take i) = 0
 | [], a => by simp [zEc]
 | x :: l, a => by
   unfold zEc
   by_cases h : zGh x a = 0
   · rw [if_pos h, zKb l (a ++ [x])]
     constructor
     · intro k i f hf
       cases i with
       | zero => simp at hf; subst hf; simpa using h
       | succ i => have := k i f (by simpa using hf); simpa using this
     · intro k i f hf
       have := k (i + 1) f (by simpa using hf)
       simpa using this
   · rw [if_neg h]
     exact ⟨fun e => absurd e h, fun k => by have := k 0 x rfl; simpa using this⟩
theorem zIg {α : Type} {p : α → Prop} {l : List α} {i : Nat} : (∀ g ∈ l.take i, p g) ↔ ∀ t g, t < i → l[t]? = some g → p g := by
 constructor
 · intro h t g ht hg
   exact h g (List.mem_of_getElem? (i := t) (by rw [List.getElem?_take, if_pos ht]; exact hg))
 · intro h g hg
   obtain ⟨t, ht⟩ := List.getElem?_of_mem hg
   rw [List.getElem?_take] at ht
   split at ht
   · exact h t g (by assumption) ht
   · cases ht
theorem zHi (k : KD) (hn : ∀ m ∈ k.ms, m.nat = false) : zDh k = 0 ↔ okK k := by
 have he : zCl k.sup = true ↔ k.sup = ⟨#[]⟩ := by
  unfold zCl
  rw [Lib.toList_data, List.isEmpty_iff]
  constructor
  · intro h
    cases hk : k.sup with
    | mk d => rw [hk] at h; simp at h; rw [h]
  · intro h
    rw [h]
 have hf : zCq [] k.fs = 0 ↔ ∀ j f, k.fs[j]? = some f → fOk k.fs j f := by
  rw [zJj]
  constructor
  · intro h j f hj
    have := (zK8 f _).1 (h j f hj)
    exact ⟨this.1.1, this.1.2, zIg.1 (by simpa using this.2)⟩
  · intro h j f hj
    have o := h j f hj
    exact (zK8 f _).2 ⟨⟨o.1, o.2.1⟩, by simpa using zIg.2 o.2.2⟩
 have hm : zEc [] k.ms = 0 ↔ ∀ j m, k.ms[j]? = some m → mOk k.ms j m := by
  rw [zKb]
  constructor
  · intro h j f hj
    have := (zLh f _ (hn f (List.mem_of_getElem? hj))).1 (h j f hj)
    exact ⟨this.1.1, this.1.2, zIg.1 (by simpa using this.2.1), this.2.2⟩
  · intro h j f hj
    have o := h j f hj
    exact (zLh f _ (hn f (List.mem_of_getElem? hj))).2 ⟨⟨o.1, o.2.1⟩, by simpa using zIg.2 o.2.2.1, o.2.2.2⟩
 unfold zDh
 rw [zBo (by decide), zBo (by decide), zBo (by decide)]
 simp only [Bool.not_eq_false, Bool.and_eq_true, Bool.or_eq_true, decide_eq_true_eq, List.all_eq_true, he]
 by_cases h0 : zCq [] k.fs = 0
 · rw [if_pos h0, hm]
   constructor
   · rintro ⟨⟨a, b⟩, ⟨c, d, e⟩, f, g⟩
     exact ⟨a, b, c, d, e, f, hf.1 h0, g⟩
   · intro o
     exact ⟨⟨o.n, o.s⟩, ⟨o.lp, o.lf, o.lm⟩, o.p, o.m⟩
 · rw [if_neg h0]
   exact ⟨fun h => absurd h.2.2.2 h0, fun o => absurd (hf.2 o.f) h0⟩
end Go.Proofs.YtpehimfnkmepnaaGreat.Fr
