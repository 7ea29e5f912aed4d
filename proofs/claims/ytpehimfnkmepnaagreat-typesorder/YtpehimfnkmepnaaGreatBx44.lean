import Derived.Test.YtpehimfnkmepnaaGreatBx22
import Derived.Deep.CutRange
import Derived.Shelf.Spec.SlicesInsert
import Derived.Shelf.Spec.SlicesInsertGrow
set_option maxRecDepth 8000
set_option maxHeartbeats 40000000
namespace Go.Proofs.YtpehimfnkmepnaaGreat.T
open Go.RowKit Q Q.D K
theorem zWc {s : ByteArray} (h : zGp s = true) (p : Bs) (hp : Lib.hasPrefix (bsB s) (91 :: p) = true) : zAp (bsB s) = true := by
 unfold zGp at h
 rcases Bool.or_eq_true_iff.1 h with h | h
 · rw [eq_of_beq h] at hp; simp [Lib.hasPrefix] at hp
 · rcases Bool.or_eq_true_iff.1 h with h | h
   · rw [eq_of_beq h] at hp; simp [Lib.hasPrefix] at hp
   · exact h
theorem zRl {l : Bs} {c : UInt8} {p : Bs} (hp : Lib.hasPrefix l (c :: p) = true) : ∃ t, l = c :: t ∧ Lib.hasPrefix t p = true := by
 cases l with
 | nil => simp [Lib.hasPrefix] at hp
 | cons d t =>
   simp [Lib.hasPrefix, List.isPrefixOf] at hp
   exact ⟨t, by rw [hp.1], by simpa [Lib.hasPrefix] using hp.2⟩
theorem bs_str (l : Bs) : bsB (str l) = l := rfl
theorem zUy {s : ByteArray} (h : zGp s = true) (hp : Lib.hasPrefix (bsB s) [91, 76] = true) : Lib.hasPrefix (bsB (eS s)) [76] = true ∧ Lib.hasPrefix (bsB (eS s)) [91, 76] = false := by
 have hf := zWc h _ hp
 obtain ⟨t, ht, hp2⟩ := zRl hp
 unfold eS zEr
 rw [if_pos ⟨hf, by rw [ht]; rfl⟩, bs_str, ht]
 refine ⟨by simpa using hp2, ?_⟩
 obtain ⟨u, hu, _⟩ := zRl hp2
 rw [hu]
 rfl
def flatK (R : List KD) (a b : ByteArray) : Bool := if (bsB b == [63]) || (bsB a == bsB b) then true else if bsB a == [48] then zE2 b else if zD2 a b [76] then ksub R (cS a) (cS b) else if Lib.hasPrefix (bsB a) [91] && (bsB b == objL) then true else false
theorem zVj {R : List KD} {n : Nat} {a b : ByteArray} (h : zD2 a b [91, 76] = false) : zF2 R (n + 1) a b = flatK R a b := by
 unfold zF2 flatK
 rw [h]
 rfl
theorem le2 {n : Nat} {a b : ByteArray} (h : a.size ≤ b.size) (k : b.size ≤ n) : a.size ≤ n := Nat.le_trans h k
theorem zKv (w : World) (pk : Nat) (R : List Mem) (mb : Nat) (ao : Option Addr) (c : Nat) (h : KinV w pk R mb ao c) (a b : ByteArray) (ha : a.size ≤ 9223372036854775000) (hb : b.size ≤ 9223372036854775000) (z : Bool)
 (hz : zD2 a b [91, 76] = true → Calls Tryz.prog 72 #[.pointer (some ⟨pk, 0, none⟩), .string (eS a), .string (eS b)] w fun e w' => e = .returned (.bool z) ∧ Below w.heap.size w w') (hz0 : zD2 a b [91, 76] = false → z = false) :
 Calls Tryz.prog 72 #[.pointer (some ⟨pk, 0, none⟩), .string a, .string b] w fun e w' => e = .returned (.bool (if (bsB b == [63]) || (bsB a == bsB b) then true else if bsB a == [48] then zE2 b else if zD2 a b [76] then ksub (R.map Mem.k) (cS a) (cS b) else if Lib.hasPrefix (bsB a) [91] && (bsB b == objL) then true else z)) ∧ Below w.heap.size w w' := by
 have C1 := D.zA0 (zNo b w (by omega))
 have C2 := D.zA0 (zP6 a b ⟨#[76]⟩ w)
 have C3 := D.zA0 (zP6 a b ⟨#[91, 76]⟩ w)
 have C4 := D.zA0 (zIl a w (by omega))
 have C5 := D.zA0 (zIl b w (by omega))
 have C6 := D.zA0 (zN0 w pk R mb ao c h (cS a) (cS b))
 have C7 := D.zA0 (Tryz.strings_HasPrefix a ⟨#[91]⟩ w)
 have C8 := D.zA0 (zLv a w (by omega))
 have C9 := D.zA0 (zLv b w (by omega))
 rw [zNf] at C6
 change Hid (Calls _ _ _ _ fun e w' => e = .returned (.bool (zD2 a b [76])) ∧ w' = w) at C2
 change Hid (Calls _ _ _ _ fun e w' => e = .returned (.bool (zD2 a b [91, 76])) ∧ w' = w) at C3
 change Hid (Calls _ _ _ _ fun e w' => e = .returned (.bool (Lib.hasPrefix (bsB a) [91])) ∧ w' = w) at C7
 have t1 : (b.toList == [63]) = (bsB b == [63]) := by rw [Lib.toList_data]
 have t2 : (a.toList == b.toList) = (bsB a == bsB b) := by rw [Lib.toList_data, Lib.toList_data]
 have t3 : (a.toList == [48]) = (bsB a == [48]) := by rw [Lib.toList_data]
 have t4 : (b.toList == [76, 79, 98, 106, 101, 99, 116, 59]) = (bsB b == objL) := by rw [Lib.toList_data]; rfl
 have HZ := D.zA0 hz
 have HZ0 := D.zA0 hz0
 clear hz hz0 h ha hb
 generalize (bsB b == [63]) = x1 at *
 generalize (bsB a == bsB b) = x2 at *
 generalize (bsB a == [48]) = x3 at *
 generalize (bsB b == objL) = x4 at *
 generalize zE2 b = x5 at *
 generalize zD2 a b [76] = x6 at *
 generalize zD2 a b [91, 76] = x7 at *
 generalize ksub (R.map Mem.k) (cS a) (cS b) = x8 at *
 generalize Lib.hasPrefix (bsB a) [91] = x9 at *
 generalize cS a = ca at *
 generalize cS b = cb at *
 generalize eS a = ea at *
 generalize eS b = eb at *
 cases x1
 · cases x2
   · cases x3
     · cases x6
       · cases x9
         · cases x7
           · have e := HZ0.out rfl
             subst e
             go_enter Tryz.func72, Tryz.ntmps72
             go_wp2_with fail
             refine C2.out.mono ?_; rintro e w' ⟨rfl, hww⟩; cases hww
             go_wp2_with fail
             refine C7.out.mono ?_; rintro e w' ⟨rfl, hww⟩; cases hww
             go_wp2_with fail
             refine C3.out.mono ?_; rintro e w' ⟨rfl, hww⟩; cases hww
             go_wp2_with fail
             go_ret
             exact ⟨rfl, Below.refl _ _⟩
           · go_enter Tryz.func72, Tryz.ntmps72
             go_wp2_with fail
             refine C2.out.mono ?_; rintro e w' ⟨rfl, hww⟩; cases hww
             go_wp2_with fail
             refine C7.out.mono ?_; rintro e w' ⟨rfl, hww⟩; cases hww
             go_wp2_with fail
             refine C3.out.mono ?_; rintro e w' ⟨rfl, hww⟩; cases hww
             go_wp2_with fail
             refine C8.out.mono ?_; rintro e w' ⟨rfl, hww⟩; cases hww
             go_wp2_with fail
             refine C9.out.mono ?_; rintro e w' ⟨rfl, hww⟩; cases hww
             go_wp2_with fail
             refine (HZ.out (by simp)).mono ?_; rintro e w' ⟨rfl, hw⟩
             go_wp2_with fail
             go_ret
             exact ⟨by simp, hw⟩
         · cases x4
           · cases x7
             · have e := HZ0.out rfl
               subst e
               go_enter Tryz.func72, Tryz.ntmps72
               go_wp2_with fail
               refine C2.out.mono ?_; rintro e w' ⟨rfl, hww⟩; cases hww
               go_wp2_with fail
               refine C7.out.mono ?_; rintro e w' ⟨rfl, hww⟩; cases hww
               go_wp2_with fail
               refine C3.out.mono ?_; rintro e w' ⟨rfl, hww⟩; cases hww
               go_wp2_with fail
               go_ret
               exact ⟨rfl, Below.refl _ _⟩
             · go_enter Tryz.func72, Tryz.ntmps72
               go_wp2_with fail
               refine C2.out.mono ?_; rintro e w' ⟨rfl, hww⟩; cases hww
               go_wp2_with fail
               refine C7.out.mono ?_; rintro e w' ⟨rfl, hww⟩; cases hww
               go_wp2_with fail
               refine C3.out.mono ?_; rintro e w' ⟨rfl, hww⟩; cases hww
               go_wp2_with fail
               refine C8.out.mono ?_; rintro e w' ⟨rfl, hww⟩; cases hww
               go_wp2_with fail
               refine C9.out.mono ?_; rintro e w' ⟨rfl, hww⟩; cases hww
               go_wp2_with fail
               refine (HZ.out (by simp)).mono ?_; rintro e w' ⟨rfl, hw⟩
               go_wp2_with fail
               go_ret
               exact ⟨by simp, hw⟩
           · go_enter Tryz.func72, Tryz.ntmps72
             go_wp2_with fail
             refine C2.out.mono ?_; rintro e w' ⟨rfl, hww⟩; cases hww
             go_wp2_with fail
             refine C7.out.mono ?_; rintro e w' ⟨rfl, hww⟩; cases hww
             go_wp2_with fail
             go_ret
             exact ⟨rfl, Below.refl _ _⟩
       · go_enter Tryz.func72, Tryz.ntmps72
         go_wp2_with fail
         refine C2.out.mono ?_; rintro e w' ⟨rfl, hww⟩; cases hww
         go_wp2_with fail
         refine C4.out.mono ?_; rintro e w' ⟨rfl, hww⟩; cases hww
         go_wp2_with fail
         refine C5.out.mono ?_; rintro e w' ⟨rfl, hww⟩; cases hww
         go_wp2_with fail
         refine C6.out.mono ?_; rintro e w' ⟨rfl, hw⟩
         go_wp2_with fail
         go_ret
         exact ⟨by simp, hw⟩
     · go_enter Tryz.func72, Tryz.ntmps72
       go_wp2_with fail
       refine C1.out.mono ?_; rintro e w' ⟨rfl, hww⟩; cases hww
       go_wp2_with fail
       go_ret
       exact ⟨by simp, Below.refl _ _⟩
   · go_enter Tryz.func72, Tryz.ntmps72
     go_wp2_with fail
     go_ret
     exact ⟨rfl, Below.refl _ _⟩
 · go_enter Tryz.func72, Tryz.ntmps72
   go_wp2_with fail
   go_ret
   exact ⟨rfl, Below.refl _ _⟩
theorem zQa (w : World) (pk : Nat) (R : List Mem) (mb : Nat) (ao : Option Addr) (c : Nat) (h : KinV w pk R mb ao c) (a b : ByteArray) (ha : a.size ≤ 9223372036854775000) (hb : b.size ≤ 9223372036854775000) (sa : zGp a = true) :
 Calls Tryz.prog 72 #[.pointer (some ⟨pk, 0, none⟩), .string a, .string b] w fun e w' => e = .returned (.bool (zF2 (R.map Mem.k) 2 a b)) ∧ Below w.heap.size w w' := by
 cases hk : zD2 a b [91, 76]
 · have := zKv w pk R mb ao c h a b ha hb false (fun e => by rw [hk] at e; cases e) (fun _ => rfl)
   unfold zF2
   rw [hk]
   exact this
 · have h2 : zD2 (eS a) (eS b) [91, 76] = false := by
    unfold zD2 at hk ⊢
    rw [(zUy sa (Bool.and_eq_true_iff.1 hk).1).2]
    rfl
   have h1 := zKv w pk R mb ao c h (eS a) (eS b) (le2 (zGg a) ha) (le2 (zGg b) hb) false (fun e => by rw [h2] at e; cases e) (fun _ => rfl)
   have := zKv w pk R mb ao c h a b ha hb (zF2 (R.map Mem.k) 1 (eS a) (eS b)) (fun _ => by rw [zVj h2]; exact h1) (fun e => by rw [hk] at e; cases e)
   unfold zF2
   rw [hk]
   exact this
theorem zDr {R : List KD} {s : ByteArray} (h : zC5 R s = true) : zGp s = true := (Bool.and_eq_true_iff.1 h).1
theorem zSl (w : World) (pk : Nat) (R : List Mem) (mb : Nat) (ao : Option Addr) (c : Nat) (h : KinV w pk R mb ao c) (a b : ByteArray) (ha : a.size ≤ 9223372036854775000) (hb : b.size ≤ 9223372036854775000) :
 Calls Tryz.prog 23 #[.pointer (some ⟨pk, 0, none⟩), .string a, .string b] w fun e w' => e = .returned (.bool (zP9 (R.map Mem.k) a b)) ∧ Below w.heap.size w w' := by
 have C1 := D.zA0 (zFi w pk R mb ao c h a ha)
 unfold zP9
 cases ka : zC5 (R.map Mem.k) a
 · rw [ka] at C1
   go_enter Tryz.func23, Tryz.ntmps23
   go_wp2_with fail
   refine C1.out.mono ?_; rintro e w' ⟨rfl, b1⟩
   go_wp2_with fail
   go_ret
   exact ⟨rfl, b1⟩
 · cases kb : zC5 (R.map Mem.k) b
   · rw [ka] at C1
     go_enter Tryz.func23, Tryz.ntmps23
     go_wp2_with fail
     refine C1.out.mono ?_; rintro e w1 ⟨rfl, b1⟩
     have C2 := D.zA0 (zFi w1 pk R mb ao c (h.below b1) b hb)
     rw [kb] at C2
     go_wp2_with fail
     refine C2.out.mono ?_; rintro e w2 ⟨rfl, b2⟩
     go_wp2_with fail
     go_ret
     exact ⟨rfl, next b1 b2⟩
   · rw [ka] at C1
     have sa := zDr ka
     clear ka
     go_enter Tryz.func23, Tryz.ntmps23
     go_wp2_with fail
     refine C1.out.mono ?_; rintro e w1 ⟨rfl, b1⟩
     have C2 := D.zA0 (zFi w1 pk R mb ao c (h.below b1) b hb)
     rw [kb] at C2
     go_wp2_with fail
     refine C2.out.mono ?_; rintro e w2 ⟨rfl, b2⟩
     have C3 := D.zA0 (zQa w2 pk R mb ao c ((h.below b1).below b2) a b ha hb sa)
     go_wp2_with fail
     refine C3.out.mono ?_; rintro e w3 ⟨rfl, b3⟩
     go_wp2_with fail
     go_ret
     exact ⟨by simp, next b1 (next b2 b3)⟩
end Go.Proofs.YtpehimfnkmepnaaGreat.T
namespace Go.Proofs.YtpehimfnkmepnaaGreat.Fr
open Go.RowKit Q Q.D K
def zPc : Value := .agg #[.int .i64 0, .slice none 0 0, .slice none 0 0]
theorem set_no (w : World) (v : Value) (f : RD) (h : FrV w v f) (n : Int) (t : ByteArray) (hn : n < 0 ∨ (f.loc.length : Int) ≤ n) :
 Calls Tryz.prog 44 #[v, .int .i64 n, .string t] w fun e w' => e = .returned (.tuple #[zPc, .int .i64 19]) ∧ Below w.heap.size w w' := by
 obtain ⟨o1, c1, o2, c2, rfl, k1, k2⟩ := h
 obtain ⟨aT, loc, stk⟩ := f
 simp only at *
 have B2 : Below w.heap.size w ((w.alloc (.cells #[.int .i64 aT, .slice o1 loc.length c1, .slice o2 stk.length c2] 67)).alloc (.cells #[.int .i64 0, .slice none 0 0, .slice none 0 0] 67)) := ((Below.refl _ w).alloc (Nat.le_refl _) _).alloc (by simp) _
 have Y2 := Blk.new (w.alloc (.cells #[.int .i64 aT, .slice o1 loc.length c1, .slice o2 stk.length c2] 67)) #[.int .i64 0, .slice none 0 0, .slice none 0 0] 67
 rw [World.size_alloc] at Y2
 clear k1 k2
 have hd : decide (n < 0) = true ∨ decide (n < 0) = false ∧ (n ≥ (loc.length : Int)) := by
  by_cases h0 : n < 0
  · exact .inl (by simpa using h0)
  · exact .inr ⟨by simpa using h0, by omega⟩
 rcases hd with hd | ⟨hd, hge⟩
 · have hn0 : n < 0 := by simpa using hd
   go_enter Tryz.func44, Tryz.ntmps44
   go_wp2_with (refine wpList_store_row rfl 67 _ _ rfl (w.heap.size + 1) #[.int .i64 0, .slice none 0 0, .slice none 0 0] rfl rfl 67 _ Y2 (by kernel_rfl) rfl (by simp [Value.oneCell']) ?_)
   refine bodyPost_ret (zBq rfl _ _ (w.heap.size + 1) 67 _ (0, 0) _ rfl (setRow_heap _ _ _ _ _ _ Y2) Tryz.underlying67 rfl (by kernel_rfl)) rfl ?_
   exact ⟨rfl, zB5 B2 (by omega) _⟩
 · have hn0 : ¬ n < 0 := by simpa using hd
   go_enter Tryz.func44, Tryz.ntmps44
   go_wp2_with (refine wpList_store_row rfl 67 _ _ rfl (w.heap.size + 1) #[.int .i64 0, .slice none 0 0, .slice none 0 0] rfl rfl 67 _ Y2 (by kernel_rfl) rfl (by simp [Value.oneCell']) ?_)
   refine bodyPost_ret (zBq rfl _ _ (w.heap.size + 1) 67 _ (0, 0) _ rfl (setRow_heap _ _ _ _ _ _ Y2) Tryz.underlying67 rfl (by kernel_rfl)) rfl ?_
   exact ⟨rfl, zB5 B2 (by omega) _⟩
theorem zHv {fn : Func} {p t1 t2 : Tmp} {ty : TypeId} (h : fn.results = #[.cell p ty, .tmp t1, .tmp t2]) (tmps : Array Value) (w : World) (g : Nat) (t : TypeId) (cs : Array Value) (fr : Nat × Nat) (d : TypeDesc)
 (hp : tmps.getD p undef = .pointer (some ⟨g, 0, none⟩)) (hg : w.heap[g]? = some (.cells cs t fr))
 (hu : Tryz.prog.underlying ty = some d) (hd : (match d with | .struct _ | .array _ _ => true | _ => false) = true) (hi : (Tryz.prog.info? ty).map (·.size) = some cs.size) :
 (results fn tmps).run Tryz.prog w = .ok (.tuple #[.agg cs, tmps.getD t1 undef, tmps.getD t2 undef]) w := by
 have hp' : tmps[p]?.getD undef = .pointer (some ⟨g, 0, none⟩) := by simpa using hp
 have hL := run_loadVar_row (P := Tryz.prog) w g t ty cs fr d hg hu (by cases d <;> simp_all) hi
 simp [results, h, hp', asAddr, hL, Result.andThen]
theorem pop_no (w : World) (v : Value) (f : RD) (h : FrV w v f) (n : Int) (hn : n < 0 ∨ (f.stk.length : Int) < n) :
 Calls Tryz.prog 40 #[v, .int .i64 n] w fun e w' => e = .returned (.tuple #[zPc, .slice none 0 0, .int .i64 18]) ∧ Below w.heap.size w w' := by
 obtain ⟨o1, c1, o2, c2, rfl, k1, k2⟩ := h
 obtain ⟨aT, loc, stk⟩ := f
 simp only at *
 have B2 : Below w.heap.size w ((w.alloc (.cells #[.int .i64 aT, .slice o1 loc.length c1, .slice o2 stk.length c2] 67)).alloc (.cells #[.int .i64 0, .slice none 0 0, .slice none 0 0] 67)) := ((Below.refl _ w).alloc (Nat.le_refl _) _).alloc (by simp) _
 have Y2 := Blk.new (w.alloc (.cells #[.int .i64 aT, .slice o1 loc.length c1, .slice o2 stk.length c2] 67)) #[.int .i64 0, .slice none 0 0, .slice none 0 0] 67
 rw [World.size_alloc] at Y2
 clear k1 k2
 have hd : decide (n < 0) = true ∨ decide (n < 0) = false ∧ (n > (stk.length : Int)) := by
  by_cases h0 : n < 0
  · exact .inl (by simpa using h0)
  · exact .inr ⟨by simpa using h0, by omega⟩
 rcases hd with hd | ⟨hd, hge⟩
 · have hn0 : n < 0 := by simpa using hd
   go_enter Tryz.func40, Tryz.ntmps40
   go_wp2_with (refine wpList_store_row rfl 67 _ _ rfl (w.heap.size + 1) #[.int .i64 0, .slice none 0 0, .slice none 0 0] rfl rfl 67 _ Y2 (by kernel_rfl) rfl (by simp [Value.oneCell']) ?_)
   refine bodyPost_ret (zHv rfl _ _ (w.heap.size + 1) 67 _ (0, 0) _ rfl (setRow_heap _ _ _ _ _ _ Y2) Tryz.underlying67 rfl (by kernel_rfl)) rfl ?_
   exact ⟨rfl, zB5 B2 (by omega) _⟩
 · have hn0 : ¬ n < 0 := by simpa using hd
   go_enter Tryz.func40, Tryz.ntmps40
   go_wp2_with (refine wpList_store_row rfl 67 _ _ rfl (w.heap.size + 1) #[.int .i64 0, .slice none 0 0, .slice none 0 0] rfl rfl 67 _ Y2 (by kernel_rfl) rfl (by simp [Value.oneCell']) ?_)
   refine bodyPost_ret (zHv rfl _ _ (w.heap.size + 1) 67 _ (0, 0) _ rfl (setRow_heap _ _ _ _ _ _ Y2) Tryz.underlying67 rfl (by kernel_rfl)) rfl ?_
   exact ⟨rfl, zB5 B2 (by omega) _⟩
end Go.Proofs.YtpehimfnkmepnaaGreat.Fr
namespace Go.Proofs
open Go.Shelf
def Tryz.insS_ren : Go.Shelf.Ren := ⟨fun | 22 => 86 | 17 => 182 | 29 => 126 | 30 => 127 | 36 => 155 | n => n, fun | 0 => 0 | 3 => 3 | 4 => 4 | 9 => 9 | 24 => 47 | n => n, fun | n => n⟩
theorem Tryz.insS : Go.Proofs.Lays2.n22 Tryz.prog Tryz.insS_ren := {
 mixed := by kernel_rfl
 f17 := Tryz.func182.trans (congrArg some (by kernel_rfl))
 f22 := Tryz.func86.trans (congrArg some (by kernel_rfl))
 f29 := Tryz.func126.trans (congrArg some (by kernel_rfl))
 f30 := Tryz.func127.trans (congrArg some (by kernel_rfl))
 f36 := Tryz.func155.trans (congrArg some (by kernel_rfl))
 t0 := Tryz.underlying0
 a0 := Tryz.isAgg0
 z0 := Tryz.sizeOf0
 v0 := Tryz.zeroValue0
 t3 := Tryz.underlying3
 a3 := Tryz.isAgg3
 z3 := Tryz.sizeOf3
 v3 := Tryz.zeroValue3
 t4 := Tryz.underlying4
 a4 := Tryz.isAgg4
 z4 := Tryz.sizeOf4
 v4 := Tryz.zeroValue4
 t9 := Tryz.underlying9
 a9 := Tryz.isAgg9
 z9 := Tryz.sizeOf9
 v9 := Tryz.zeroValue9
 t24 := Tryz.underlying47
 a24 := Tryz.isAgg47
 z24 := Tryz.sizeOf47
 v24 := Tryz.zeroValue47
 i9 := by kernel_rfl }
end Go.Proofs
namespace Go.Proofs.YtpehimfnkmepnaaGreat.Fr
open Go.RowKit Q Q.D K
theorem Blk.cells {b : Nat} {T : TypeId} : ∀ (xs : List Value) (o : Nat) {W : World} {cur : Array Value}, Blk W b cur T → ∃ cur', Blk (W.setCells b o xs) b cur' T ∧ cur'.size = cur.size ∧ ∀ j, cur'[j]? = if o ≤ j ∧ j < o + xs.length ∧ j < cur.size then xs[j - o]? else cur[j]?
 | [], o, W, cur, h => ⟨cur, h, rfl, fun j => by rw [if_neg (by simp; omega)]⟩
 | v :: xs, o, W, cur, h => by
   obtain ⟨cur', h1, h2, h3⟩ := Blk.cells xs (o + 1) (h.set o v)
   refine ⟨cur', h1, by rw [h2]; simp, fun j => ?_⟩
   rw [h3]
   simp only [Array.size_setIfInBounds, List.length_cons]
   by_cases hj : o + 1 ≤ j ∧ j < o + 1 + xs.length ∧ j < cur.size
   · rw [if_pos hj, if_pos (by omega), show j - o = (j - (o + 1)) + 1 by omega, List.getElem?_cons_succ]
   · rw [if_neg hj, Array.getElem?_setIfInBounds]
     by_cases e : o = j
     · subst e
       rw [if_pos rfl]
       by_cases hl : o < cur.size
       · rw [if_pos hl, if_pos (by omega)]; simp
       · rw [if_neg hl, if_neg (by omega), Array.getElem?_eq_none (by omega)]
     · rw [if_neg e, if_neg (by omega)]
theorem zD6 {B : Nat} {a : World} (b : Nat) (hb : B ≤ b) : ∀ (vs : List Value) (o : Nat) {w : World}, Below B a w → Below B a (w.setCells b o vs)
 | [], _, _, h => h
 | v :: vs, o, _, h => zD6 b hb vs (o + 1) (zAa h hb o v)
theorem OwnT.of_blk {W : World} {B b cap : Nat} {cur : Array Value} {l : List ByteArray} (hb : Blk W b cur 9) (hB : B ≤ b) (h1 : l.length ≤ cap) (h2 : cap ≤ maxLen) (h3 : cur.size = cap) (h4 : ∀ (j : Nat) (s : ByteArray), l[j]? = some s → cur[j]? = some (Value.string s)) : OwnT W B (.slice (some ⟨b, 0, none⟩) l.length cap) l := by
 refine ⟨by simp [tx], .inr ⟨b, cap, cur, rfl, hB, hb, h1, h2, by omega, ?_⟩⟩
 refine List.ext_getElem? (fun j => ?_)
 rw [Nat.mul_one, List.getElem?_take]
 by_cases hj : j < l.length
 · rw [if_pos hj]
   obtain ⟨s, hs⟩ : ∃ s, l[j]? = some s := ⟨_, List.getElem?_eq_getElem hj⟩
   have := h4 j s hs
   rw [← Array.getElem?_toList] at this
   rw [this]
   simp [tx, hs]
 · rw [if_neg hj, List.getElem?_eq_none (by simp [tx]; omega)]
theorem zUw (l : List ByteArray) : ∀ v ∈ tx l, v.oneCell' = true := by
 intro v hv
 simp only [tx, List.mem_map] at hv
 obtain ⟨s, _, rfl⟩ := hv
 rfl
theorem zVc (w : World) (B : Nat) (v : Value) (l : List ByteArray) (y : ByteArray) (h : OwnT w B v l) (hB : B ≤ w.heap.size) (hl : l.length ≤ 1000000) :
 Calls Tryz.prog 86 #[v, .int .i64 0, .slice (some ⟨w.heap.size, 0, none⟩) 1 1] (w.alloc (.cells #[.string y] 9)) fun e w' => ∃ v', e = .returned v' ∧ OwnT w' B v' (y :: l) ∧ Below B w w' := by
 have hA : Below B w (w.alloc (.cells #[.string y] 9)) := (Below.refl _ _).alloc hB _
 have V := Blk.new w #[.string y] 9
 have hvs : ∀ j u, ([Value.string y] : List Value)[j]? = some u → (w.alloc (.cells #[.string y] 9)).cell? ⟨w.heap.size, 0 + j, none⟩ = some u := by
  intro j u hj
  match j, hj with
  | 0, hj => simp at hj; subst hj; rw [V.cell]; rfl
  | j + 1, hj => simp at hj
 have h1v : ∀ u ∈ ([Value.string y] : List Value), u.oneCell' = true := by intro u hu; simp at hu; subst hu; rfl
 rcases h.2 with ⟨rfl, e0⟩ | ⟨g, cap, cur, e, hBg, hg, h1, h2, h3, h4⟩
 · obtain rfl : l = [] := List.length_eq_zero_iff.1 e0
   refine (Any2.slices_Insert_string_end_grow Tryz.insS none 0 0 w.heap.size 0 1 1 [] [.string y] _ (by omega) (by omega) (by omega) (by omega) rfl rfl (fun _ => rfl) (fun a ha => by cases ha) hvs h1v).mono ?_
   rintro e w' ⟨rfl, rfl⟩
   have hG := grownCap_ge (w.alloc (.cells #[.string y] 9)) (0 + 1) 0 9
   have hG2 := grownCap_le_maxLen (w.alloc (.cells #[.string y] 9)) (0 + 1) 0 9 (by unfold maxLen; omega)
   refine ⟨_, rfl, ?_, ((hA).drew.alloc (by simp; omega) _)⟩
   refine OwnT.of_blk (l := [y]) (Blk.new (w.alloc (.cells #[.string y] 9)).drew _ _) (by simp; omega) hG hG2 ?_ ?_
   · simp only [Array.size_append, zQk]
     show 1 + _ = _
     exact Nat.add_sub_cancel' hG
   · intro j s hs
     match j, hs with
     | 0, hs => simp at hs; subst hs; rw [Array.getElem?_append_left (by simp)]; rfl
     | j + 1, hs => simp at hs
 · subst e
   have hglt := (Array.getElem?_eq_some_iff.1 hg).1
   have hG0 : Blk (w.alloc (.cells #[.string y] 9)) g cur 9 := Blk.alloc (show Blk w g cur 9 from hg) _
   have hcs : ∀ j u, (tx l)[j]? = some u → (w.alloc (.cells #[.string y] 9)).cell? ⟨g, 0 + j, none⟩ = some u := by
    intro j u hj
    have := h.cells (g := g) rfl j u hj
    rw [Addr.add_lit] at this
    exact cell_later (Below.alloc (Below.refl _ w) (Nat.le_refl _) _) this
   have hcur : ∀ (j : Nat) (s : ByteArray), l[j]? = some s → cur[j]? = some (Value.string s) := by
    intro j s hs
    have := h.cells (g := g) rfl j (.string s) (by simp [tx, hs])
    rw [Addr.add_lit, Nat.zero_add, Blk.cell (show Blk w g cur 9 from hg)] at this
    exact this
   have hsz : cur.size = cap := by omega
   by_cases hroom : l.length + 1 ≤ cap
   · by_cases hl0 : l.length = 0
     · obtain rfl : l = [] := List.length_eq_zero_iff.1 hl0
       refine (Any2.slices_Insert_string_end_room Tryz.insS g 0 0 cap w.heap.size 0 1 1 [.string y] _ (by omega) hroom (by unfold maxLen at h2; omega) rfl (fun j hj => ?_) (fun j hj => hG0.frozen _) hvs h1v).mono ?_
       · rw [hG0.cell, Array.getElem?_eq_getElem (by simp at hroom; omega)]; rfl
       rintro e w' ⟨rfl, rfl⟩
       obtain ⟨cur', k1, k2, k3⟩ := Blk.cells [.string y] (0 + 0) hG0
       refine ⟨_, rfl, OwnT.of_blk (l := [y]) k1 hBg hroom h2 (by omega) (fun j s hs => ?_), zD6 g hBg _ _ hA⟩
       match j, hs with
       | 0, hs => simp at hs; subst hs; rw [k3, if_pos (by simp at hroom ⊢; omega)]; rfl
       | j + 1, hs => simp at hs
     · refine (Any2.slices_Insert_string_shift Tryz.insS g 0 l.length cap 0 w.heap.size 0 1 1 (tx l) [.string y] _ (by omega) (by omega) hroom (by unfold maxLen at h2; omega) (by omega) (zMd l) rfl hcs (fun j hj => ?_) (fun j hj => hG0.frozen _) hvs (zUw l) h1v 9 9 1 cur.size ?_ ?_ (by omega) (V.frozen _) (V.frozen _)).mono ?_
       · rw [hG0.cell, Array.getElem?_eq_getElem (by omega)]; rfl
       · simp only [World.shape?, show (w.alloc (.cells #[.string y] 9)).heap[w.heap.size]? = _ from V]; rfl
       · simp only [World.shape?, show (w.alloc (.cells #[.string y] 9)).heap[g]? = _ from hG0]
       rintro e w' ⟨rfl, rfl⟩
       have hGd : Blk (w.alloc (.cells #[.string y] 9)).drew g cur 9 := hG0
       obtain ⟨cur1, k1, k2, k3⟩ := Blk.cells ((tx l).drop 0) (0 + (0 + 1)) hGd
       obtain ⟨cur2, k4, k5, k6⟩ := Blk.cells [.string y] (0 + 0) k1
       refine ⟨_, rfl, OwnT.of_blk (l := y :: l) k4 hBg (by simpa using hroom) h2 (by omega) (fun j s hs => ?_), zD6 g hBg _ _ (zD6 g hBg _ _ hA.drew)⟩
       match j, hs with
       | 0, hs => simp at hs; subst hs; rw [k6, if_pos (by simp; omega)]; rfl
       | j + 1, hs =>
         have hj := (List.getElem?_eq_some_iff.1 hs).1
         simp at hj hs
         rw [k6, if_neg (by simp), k3, if_pos (by simp [tx]; omega)]
         simp [tx, hs]
   · have hcl : cap = l.length := by omega
     have hbig : (l.length + 1) * 16 ≤ 140737488355328 := by omega
     have hG := grownCap_ge (w.alloc (.cells #[.string y] 9)) (l.length + 1) cap 9
     have hG2 := grownCap_le_maxLen (w.alloc (.cells #[.string y] 9)) (l.length + 1) cap 9 (by unfold maxLen; omega)
     by_cases hl0 : l.length = 0
     · obtain rfl : l = [] := List.length_eq_zero_iff.1 hl0
       refine (Any2.slices_Insert_string_end_grow Tryz.insS (some ⟨g, 0, none⟩) 0 cap w.heap.size 0 1 1 [] [.string y] _ (by omega) (by omega) (by omega) (by omega) rfl rfl (fun e => by cases e) (fun a ha j u hj => by simp at hj) hvs h1v).mono ?_
       rintro e w' ⟨rfl, rfl⟩
       refine ⟨_, rfl, ?_, ((hA).drew.alloc (by simp; omega) _)⟩
       refine OwnT.of_blk (l := [y]) (Blk.new (w.alloc (.cells #[.string y] 9)).drew _ _) (by simp; omega) hG hG2 ?_ ?_
       · simp only [Array.size_append, zQk]
         show 1 + _ = _
         exact Nat.add_sub_cancel' hG
       · intro j s hs
         match j, hs with
         | 0, hs => simp at hs; subst hs; rw [Array.getElem?_append_left (by simp)]; rfl
         | j + 1, hs => simp at hs
     · refine (Any2.slices_Insert_string_grow Tryz.insS g 0 l.length cap 0 w.heap.size 0 1 1 (tx l) [.string y] _ (by omega) (by omega) (by omega) (by omega) hbig (zMd l) rfl hcs hvs (zUw l) h1v).mono ?_
       rintro e w' ⟨rfl, rfl⟩
       generalize hGG : grownCap (w.alloc (.cells #[.string y] 9)) (l.length + 1) cap (Tryz.insS_ren.t 9) = G
       have hG' : l.length + 1 ≤ G := by rw [← hGG]; exact hG
       have hG2' : G ≤ maxLen := by rw [← hGG]; exact hG2
       have N0 := Blk.new (w.alloc (.cells #[.string y] 9)) (((tx l).take 0).toArray ++ Builtin.zeroCells (Value.string ⟨#[]⟩).cells (l.length + 1 - 0) ++ Builtin.zeroCells (Value.string ⟨#[]⟩).cells (G - (l.length + 1))) 9
       have N0d : Blk ((w.alloc (.cells #[.string y] 9)).alloc (.cells (((tx l).take 0).toArray ++ Builtin.zeroCells (Value.string ⟨#[]⟩).cells (l.length + 1 - 0) ++ Builtin.zeroCells (Value.string ⟨#[]⟩).cells (G - (l.length + 1))) 9)).drew (w.alloc (.cells #[.string y] 9)).heap.size _ 9 := N0
       obtain ⟨cur1, k1, k2, k3⟩ := Blk.cells [.string y] 0 N0d
       have k1d : Blk ((((w.alloc (.cells #[.string y] 9)).alloc (.cells (((tx l).take 0).toArray ++ Builtin.zeroCells (Value.string ⟨#[]⟩).cells (l.length + 1 - 0) ++ Builtin.zeroCells (Value.string ⟨#[]⟩).cells (G - (l.length + 1))) 9)).drew.setCells (w.alloc (.cells #[.string y] 9)).heap.size 0 [.string y]).drew) (w.alloc (.cells #[.string y] 9)).heap.size cur1 9 := k1
       obtain ⟨cur2, k4, k5, k6⟩ := Blk.cells ((tx l).drop 0) (0 + 1) k1d
       have hs1 : cur1.size = G := by
        rw [k2]
        simp only [Array.size_append, zQk, List.take_zero]
        simp
        omega
       have hBn : B ≤ (w.alloc (.cells #[.string y] 9)).heap.size := by simp; omega
       refine ⟨_, rfl, OwnT.of_blk (l := y :: l) k4 hBn (by simpa using hG') hG2' (by omega) (fun j s hs => ?_), zD6 _ hBn _ _ (zD6 _ hBn _ _ (hA.alloc hBn _).drew).drew⟩
       match j, hs with
       | 0, hs => simp at hs; subst hs; rw [k6, if_neg (by simp), k3, if_pos (by rw [← k2]; simp; omega)]; rfl
       | j + 1, hs =>
         have hj := (List.getElem?_eq_some_iff.1 hs).1
         simp at hj hs
         rw [k6, if_pos (by simp [tx]; omega)]
         simp [tx, hs]
end Go.Proofs.YtpehimfnkmepnaaGreat.Fr
