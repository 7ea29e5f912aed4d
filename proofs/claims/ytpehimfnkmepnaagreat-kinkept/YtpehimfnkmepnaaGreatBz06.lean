import Derived.Test.YtpehimfnkmepnaaGreatBz05
set_option maxRecDepth 8000
set_option maxHeartbeats 40000000
namespace Go.Proofs.YtpehimfnkmepnaaGreat.M
open Go.RowKit
def zB5 : Bool → List Value
 | true => [.string ⟨#[73]⟩, .string ⟨#[73]⟩, .string ⟨#[73]⟩, .string ⟨#[73]⟩]
 | false => [.string ⟨#[73]⟩, .string ⟨#[73]⟩, .string ⟨#[73]⟩, .string ⟨#[73]⟩, .string ⟨#[76, 65, 59]⟩, .string ⟨#[76, 65, 59]⟩, .string ⟨#[91, 73]⟩, .string ⟨#[76, 84, 104, 114, 111, 119, 97, 98, 108, 101, 59]⟩, .string ⟨#[76, 84, 59]⟩, .string ⟨#[91, 76, 65, 59]⟩]
theorem Mk.noK {B pr pm n d : Nat} {pl : Bool} {σ : SG} {w : World} (h : Mk B pr pm n d pl σ w) : w.cell? ⟨pm, 9, none⟩ = some (.slice none 0 0) := by
 obtain ⟨s, HP, HB⟩ := h
 exact zA1 HP.blk 9 rfl
theorem zFu (B pr pm n d : Nat) (pl : Bool) (σ : SG) (w : World) (h : Mk B pr pm n d pl σ w) :
 Calls Tryz.prog 136 #[.pointer (some ⟨pm, 0, none⟩)] w fun e w' => e = .returned (.slice (some ⟨w.heap.size, 0, none⟩) (zB5 pl).length (zB5 pl).length) ∧ w' = w.alloc (.cells (zB5 pl).toArray 9) := by
 obtain ⟨c0, c3, c4, c5, c6, hL, hleft⟩ := h.read
 have c9 := h.noK
 clear h
 cases pl
 all_goals
  go_enter Tryz.func136, Tryz.ntmps136
  go_wp2
  go_ret
  exact ⟨rfl, rfl⟩
theorem MkP.putS {B pr pm : Nat} {s : MS} {w w1 : World} {o : Obj} {v1 : Value} {u : Value} {T : TypeId} {x : LN} (h : MkP B pr pm s w) (hg : (w.alloc o).grownBy w1 s.vl.ownBlock) (ho : w1.ownsRow B 181 6 v1 (s.ls.length + 1) (zE7 s.ls ++ lrow x)) (h1 : T ≠ 181) (h2 : T ≠ 144) : Same T w ((w1.setCell ⟨pm, 2, none⟩ v1).setCell ⟨pm, 5, none⟩ u) := by
 have hA := h.below (zA2 w o)
 have hb := Same.of_grown hA.l hg (T := 144) (by decide) _ _ hA.blk
 have hp := (h.putL hg ho).2.1
 exact (((Same.of_below (zA2 w o)).trans (Same.of_grown hA.l hg h1)).trans (Same.of_set hb h2)).trans (Same.of_set hp.blk h2)
theorem zAn (B pr pm n d : Nat) (pl : Bool) (σ : SG) (op a b : Int) (w : World) (h : Mk B pr pm n d pl σ w) (hn : n ≤ 900000) :
 Calls Tryz.prog 98 #[.pointer (some ⟨pm, 0, none⟩), .int .i64 op, .int .i64 a, .int .i64 b] w fun e w' => e = .returned (.tuple #[]) ∧ Mk B pr pm (n + 1) d pl (σ.put op a b) w' ∧ Kq B pr w w' ∧ Same 9 w w' := by
 obtain ⟨s, HP, HB, hsg⟩ := h
 have HSG := zA0 hsg
 clear hsg
 obtain ⟨-, -, c2, -, -, c5, -⟩ := zE8 HP.blk
 have f0 := zAa HP.blk
 have hz := HP.lt
 have hln := HB.ln
 have L0 := HB.l0
 have L1 := HB.l1
 have HPL := zA0 (fun v1 w1 hg ho => HP.putL (o := .cells (lrow ⟨0, op, a, b, -1, -1⟩).toArray 181) (v1 := v1) (w1 := w1) (x := ⟨0, op, a, b, -1, -1⟩) hg ho)
 have HPS := zA0 (fun v1 w1 u hg ho => HP.putS (T := 9) (u := u) (o := .cells (lrow ⟨0, op, a, b, -1, -1⟩).toArray 181) (v1 := v1) (w1 := w1) (x := ⟨0, op, a, b, -1, -1⟩) hg ho (by decide) (by decide))
 have hOl := HP.l
 obtain ⟨aol, capl, el⟩ := zA4 HP.l
 have HEL := zA0 el
 rw [el] at c2
 go_enter Tryz.func98, Tryz.ntmps98
 go_wp2_with (at_builtin; refine zCj rfl _ _ rfl B (.slice aol s.ls.length capl) _ _ ⟨0, op, a, b, -1, -1⟩ rfl (by rw [← HEL.out]; exact hOl) rfl (by omega) (by omega) ?_; intro v1 w1 ho1 hg1; obtain ⟨hb1, HP1, K1⟩ := HPL.out v1 w1 (by rw [HEL.out]; exact hg1) ho1; have HS1 := zA0 (HPS.out v1 w1 (.int .i64 (s.left - 1)) (by rw [HEL.out]; exact hg1) ho1); obtain ⟨-, -, q2, -, -, q5, -⟩ := zE8 hb1; have qf := zAa hb1; obtain ⟨ao1, cap1, rfl⟩ := zA4 ho1)
 go_end0
 refine ⟨rfl, ⟨_, HP1.set (s' := { s with vl := .slice ao1 (s.ls.length + 1) cap1, ls := s.ls ++ [⟨0, op, a, b, -1, -1⟩], left := s.left - 1 }) 5 (.int .i64 (s.left - 1)) rfl rfl rfl rfl rfl rfl rfl rfl rfl rfl rfl rfl, ?_⟩, K1.set (.inl HP.hpm), HS1.out⟩
 refine ⟨⟨HB.dep, HB.pln, by have := HB.lb; simp only; omega, by simp; omega, by have := HB.pn; simp only; omega, by have := HB.hn; simp only; omega, by have := HB.tn; simp only; omega, by simp only; omega, by simp only; omega, HB.small⟩, ?_⟩
 rw [← HSG.out]
 rfl
end Go.Proofs.YtpehimfnkmepnaaGreat.M
namespace Go.Proofs.YtpehimfnkmepnaaGreat
def zAq (l : List Int) : Prop := ∀ x ∈ l, 0 ≤ x ∧ x ≤ 255
structure IN where
 pl : Int
 op : Int
 a : Int
 b : Int
def kd (op : Int) : Nat :=
 if op = 132 then 7 else if (153 ≤ op ∧ op ≤ 167) ∨ op = 198 ∨ op = 199 then 6 else if op = 17 then 5
 else if (178 ≤ op ∧ op ≤ 182) ∨ op = 184 ∨ op = 187 ∨ op = 189 ∨ op = 192 ∨ op = 193 then 4
 else if op = 16 then 3 else if op = 18 ∨ op = 21 ∨ op = 25 ∨ op = 54 ∨ op = 58 ∨ op = 188 then 2
 else if (0 ≤ op ∧ op ≤ 8) ∨ op = 46 ∨ op = 50 ∨ op = 79 ∨ op = 83 ∨ op = 87 ∨ op = 89 ∨ op = 95 ∨ op = 96 ∨ op = 100 ∨ op = 104 ∨ op = 108 ∨ op = 112 ∨ op = 116 ∨ op = 120 ∨ op = 122 ∨ op = 124 ∨ op = 126 ∨ op = 128 ∨ op = 130 ∨ op = 172 ∨ op = 176 ∨ op = 177 ∨ op = 190 ∨ op = 191 ∨ op = 194 ∨ op = 195 then 1 else 0
def szK : Nat → Nat
 | 0 => 0 | 1 => 1 | 2 => 2 | 3 => 2 | _ => 3
def sz (op : Int) : Nat := szK (kd op)
theorem kd_le (op : Int) : kd op ≤ 7 := by
 unfold kd
 repeat' split
 all_goals omega
theorem zEg {op : Int} (h : kd op ≠ 0) : 0 ≤ op ∧ op ≤ 255 := by
 unfold kd at h
 repeat' split at h
 all_goals omega
theorem zJq (op : Int) : kd op = 6 ↔ (153 ≤ op ∧ op ≤ 167) ∨ op = 198 ∨ op = 199 := by
 unfold kd
 constructor
 · intro h
   repeat' split at h
   all_goals first | assumption | omega
 · intro h
   rw [if_neg (by omega), if_pos h]
theorem zPj (op : Int) : sz op ≤ 3 := by
 unfold sz szK
 split <;> omega
theorem zKj (op : Int) : sz op = 0 ↔ kd op = 0 := by
 unfold sz szK
 split <;> simp_all
def fits (i : IN) : Prop :=
 match kd i.op with
 | 7 => (0 ≤ i.a ∧ i.a ≤ 255) ∧ -128 ≤ i.b ∧ i.b ≤ 127
 | 6 => i.b = 0 ∧ -32768 ≤ i.a - i.pl ∧ i.a - i.pl ≤ 32767
 | 5 => i.b = 0 ∧ -32768 ≤ i.a ∧ i.a ≤ 32767
 | 4 => i.b = 0 ∧ 0 ≤ i.a ∧ i.a ≤ 65535
 | 3 => i.b = 0 ∧ -128 ≤ i.a ∧ i.a ≤ 127
 | 2 => i.b = 0 ∧ 0 ≤ i.a ∧ i.a ≤ 255
 | _ => i.a = 0 ∧ i.b = 0
def oneB (i : IN) : List Int :=
 match kd i.op with
 | 7 => [i.op, i.a % 256, i.b % 256]
 | 6 => [i.op, (i.a - i.pl) / 256 % 256, (i.a - i.pl) % 256]
 | 5 => [i.op, i.a / 256 % 256, i.a % 256]
 | 4 => [i.op, i.a / 256 % 256, i.a % 256]
 | 3 => [i.op, i.a % 256]
 | 2 => [i.op, i.a % 256]
 | _ => [i.op]
def s8 (x : Int) : Int := if 128 ≤ x then x - 256 else x
def s16 (x : Int) : Int := if 32768 ≤ x then x - 65536 else x
def inst (p : Int) (op : Int) (t : List Int) : IN :=
 match kd op with
 | 7 => ⟨p, op, t.getD 0 0, s8 (t.getD 1 0)⟩
 | 6 => ⟨p, op, s16 (t.getD 0 0 * 256 + t.getD 1 0) + p, 0⟩
 | 5 => ⟨p, op, s16 (t.getD 0 0 * 256 + t.getD 1 0), 0⟩
 | 4 => ⟨p, op, t.getD 0 0 * 256 + t.getD 1 0, 0⟩
 | 3 => ⟨p, op, s8 (t.getD 0 0), 0⟩
 | 2 => ⟨p, op, t.getD 0 0, 0⟩
 | _ => ⟨p, op, 0, 0⟩
theorem zGu (op : Int) : kd op = 0 ∨ kd op = 1 ∨ kd op = 2 ∨ kd op = 3 ∨ kd op = 4 ∨ kd op = 5 ∨ kd op = 6 ∨ kd op = 7 := by have := kd_le op; omega
theorem zG7 (i : IN) (h : kd i.op ≠ 0) : (oneB i).length = sz i.op := by
 unfold oneB sz
 rcases zGu i.op with e | e | e | e | e | e | e | e
 · exact absurd e h
 all_goals rw [e]; rfl
theorem zPq (i : IN) (h : kd i.op ≠ 0) (hf : fits i) (R : List Int) : ∃ t, oneB i = i.op :: t ∧ t.length + 1 = sz i.op ∧ inst i.pl i.op (t ++ R) = i := by
 obtain ⟨p, op, a, b⟩ := i
 unfold fits at hf
 unfold oneB inst sz
 simp only at *
 rcases zGu op with e | e | e | e | e | e | e | e
 · exact absurd e h
 · rw [e] at hf ⊢
   simp only at hf ⊢
   exact ⟨[], rfl, rfl, by simp [hf.1, hf.2]⟩
 · rw [e] at hf ⊢
   simp only at hf ⊢
   refine ⟨[a % 256], rfl, rfl, ?_⟩
   simp only [List.cons_append, List.nil_append, List.getD_cons_zero]
   rw [show a % 256 = a by omega, hf.1]
 · rw [e] at hf ⊢
   simp only at hf ⊢
   refine ⟨[a % 256], rfl, rfl, ?_⟩
   simp only [List.cons_append, List.nil_append, List.getD_cons_zero]
   rw [show s8 (a % 256) = a by unfold s8; split <;> omega, hf.1]
 · rw [e] at hf ⊢
   simp only at hf ⊢
   refine ⟨[a / 256 % 256, a % 256], rfl, rfl, ?_⟩
   simp only [List.cons_append, List.nil_append, List.getD_cons_zero, List.getD_cons_succ]
   rw [show a / 256 % 256 * 256 + a % 256 = a by omega, hf.1]
 · rw [e] at hf ⊢
   simp only at hf ⊢
   refine ⟨[a / 256 % 256, a % 256], rfl, rfl, ?_⟩
   simp only [List.cons_append, List.nil_append, List.getD_cons_zero, List.getD_cons_succ]
   rw [show s16 (a / 256 % 256 * 256 + a % 256) = a by unfold s16; split <;> omega, hf.1]
 · rw [e] at hf ⊢
   simp only at hf ⊢
   refine ⟨[(a - p) / 256 % 256, (a - p) % 256], rfl, rfl, ?_⟩
   simp only [List.cons_append, List.nil_append, List.getD_cons_zero, List.getD_cons_succ]
   rw [show s16 ((a - p) / 256 % 256 * 256 + (a - p) % 256) + p = a by unfold s16; split <;> omega, hf.1]
 · rw [e] at hf ⊢
   simp only at hf ⊢
   refine ⟨[a % 256, b % 256], rfl, rfl, ?_⟩
   simp only [List.cons_append, List.nil_append, List.getD_cons_zero, List.getD_cons_succ]
   rw [show a % 256 = a by omega, show s8 (b % 256) = b by unfold s8; split <;> omega]
theorem zQp (p : Int) (op : Int) (t : List Int) (h : kd op ≠ 0) (hb : zAq t) (hl : t.length + 1 = sz op) (R : List Int) : fits (inst p op (t ++ R)) ∧ oneB (inst p op (t ++ R)) = op :: t ∧ (inst p op (t ++ R)).op = op ∧ (inst p op (t ++ R)).pl = p := by
 unfold sz at hl
 rcases zGu op with e | e | e | e | e | e | e | e
 · exact absurd e h
 · rw [e] at hl
   have ht : t = [] := by simpa [szK] using hl
   subst ht
   refine ⟨?_, ?_, ?_, ?_⟩ <;> simp [inst, fits, oneB, e]
 · rw [e] at hl
   obtain ⟨x, rfl⟩ := List.length_eq_one_iff.1 (by simp [szK] at hl; omega : t.length = 1)
   have hx := hb x (by simp)
   refine ⟨?_, ?_, ?_, ?_⟩ <;> simp [inst, fits, oneB, e] <;> omega
 · rw [e] at hl
   obtain ⟨x, rfl⟩ := List.length_eq_one_iff.1 (by simp [szK] at hl; omega : t.length = 1)
   have hx := hb x (by simp)
   refine ⟨?_, ?_, ?_, ?_⟩ <;> simp [inst, fits, oneB, e, s8] <;> (try split) <;> omega
 all_goals
  rw [e] at hl
  match t, (by simp [szK] at hl; omega : t.length = 2) with
  | [x, z], _ =>
    have hx := hb x (by simp)
    have hz := hb z (by simp)
    refine ⟨?_, ?_, ?_, ?_⟩ <;> simp [inst, fits, oneB, e, s8, s16] <;> (try split) <;> omega
/-! Lists. -/
def zAv (i : IN) : Bool :=
 match kd i.op with
 | 7 => decide ((0 ≤ i.a ∧ i.a ≤ 255) ∧ -128 ≤ i.b ∧ i.b ≤ 127)
 | 6 => decide (i.b = 0 ∧ -32768 ≤ i.a - i.pl ∧ i.a - i.pl ≤ 32767)
 | 5 => decide (i.b = 0 ∧ -32768 ≤ i.a ∧ i.a ≤ 32767)
 | 4 => decide (i.b = 0 ∧ 0 ≤ i.a ∧ i.a ≤ 65535)
 | 3 => decide (i.b = 0 ∧ -128 ≤ i.a ∧ i.a ≤ 127)
 | 2 => decide (i.b = 0 ∧ 0 ≤ i.a ∧ i.a ≤ 255)
 | _ => decide (i.a = 0 ∧ i.b = 0)
theorem zH1 (i : IN) : zAv i = true ↔ fits i := by
 unfold zAv fits
 split <;> exact decide_eq_true_iff
def encL : List IN → List Int → List Int × Int
 | [], out => if 1024 < out.length then ([], 3) else (out, 0)
 | i :: l, out => if kd i.op = 0 then ([], 15) else if i.pl ≠ (out.length : Int) then ([], 16) else if zAv i = false then ([], 1) else encL l (out ++ oneB i)
def zJ8 (b : List Int) : Nat → Nat → List IN → List IN × Int × Int
 | 0, _, acc => (acc, 0, 0)
 | f + 1, p, acc =>
   match b.drop p with
   | [] => (acc, 0, 0)
   | op :: t => if kd op = 0 then ([], 15, p) else if b.length < p + sz op then ([], 10, p) else zJ8 b f (p + sz op) (acc ++ [inst p op t])
def zPr (b : List Int) : List IN × Int × Int := if 1024 < b.length then ([], 3, 0) else zJ8 b b.length 0 []
theorem zR8 {op : Int} (h : kd op ≠ 0) : 1 ≤ sz op := by
 have := zKj op
 omega
theorem zS1 (b : List Int) (hb : zAq b) (hb' : b.length ≤ 1024) : ∀ (f p : Nat) (acc m : List IN), zJ8 b f p acc = (m, 0, 0) → p ≤ b.length → b.length ≤ p + f → ∃ l, m = acc ++ l ∧ encL l (b.take p) = (b, 0)
 | 0, p, acc, m, h, hp, hf => by
   simp only [zJ8, Prod.mk.injEq, and_true] at h
   subst h
   have : p = b.length := by omega
   subst this
   exact ⟨[], by simp, by simp only [encL, List.take_length]; rw [if_neg (by omega)]⟩
 | f + 1, p, acc, m, h, hp, hf => by
   unfold zJ8 at h
   split at h
   · rename_i hd
     simp only [Prod.mk.injEq, and_true] at h
     subst h
     have hp2 : p = b.length := by
      have := congrArg List.length hd
      rw [List.length_drop] at this
      simp at this
      omega
     subst hp2
     exact ⟨[], by simp, by simp only [encL, List.take_length]; rw [if_neg (by omega)]⟩
   · rename_i op t hd
     split at h
     · simp at h
     · rename_i hk
       split at h
       · simp at h
       · rename_i hl
         have hs := zR8 hk
         obtain ⟨l, rfl, he⟩ := zS1 b hb hb' f _ _ _ h (by omega) (by omega)
         have hlt : t.length = b.length - p - 1 := by
          have := congrArg List.length hd
          rw [List.length_drop, List.length_cons] at this
          omega
         have hbt : zAq (t.take (sz op - 1)) := fun x hx => hb x (by
          have h1 : x ∈ b.drop p := by rw [hd]; exact List.mem_cons_of_mem _ (List.mem_of_mem_take hx)
          exact List.mem_of_mem_drop h1)
         obtain ⟨h1, h2, h3, h4⟩ := zQp p op (t.take (sz op - 1)) hk hbt (by rw [List.length_take]; omega) (t.drop (sz op - 1))
         rw [List.take_append_drop] at h1 h2 h3 h4
         refine ⟨inst p op t :: l, by simp, ?_⟩
         have hlen : ((b.take p).length : Int) = p := by rw [List.length_take, Nat.min_eq_left hp]
         unfold encL
         rw [h3, if_neg hk, h4, hlen, if_neg (by simp), if_neg (by rw [(zH1 _).2 h1]; decide), h2]
         have ht : b.take (p + sz op) = b.take p ++ op :: t.take (sz op - 1) := by
          rw [List.take_add, hd]
          congr 1
          obtain ⟨s, hs2⟩ : ∃ s, sz op = s + 1 := ⟨sz op - 1, by omega⟩
          rw [hs2]; simp
         rw [← ht]
         exact he
theorem zJ2 : ∀ (l : List IN) (out b : List Int), encL l out = (b, 0) → b.length ≤ 1024 ∧ ∃ R, b = out ++ R ∧ ∀ (f : Nat) (acc : List IN), b.length ≤ out.length + f → zJ8 b f out.length acc = (acc ++ l, 0, 0)
 | [], out, b, h => by
   unfold encL at h
   split at h
   · simp at h
   · simp only [Prod.mk.injEq, and_true] at h
     subst h
     refine ⟨by omega, [], by simp, fun f acc _ => ?_⟩
     cases f with
     | zero => simp [zJ8]
     | succ f => simp [zJ8]
 | i :: l, out, b, h => by
   unfold encL at h
   split at h
   · simp at h
   · rename_i hk
     split at h
     · simp at h
     · rename_i hp
       split at h
       · simp at h
       · rename_i hf
         have hf' : fits i := (zH1 i).1 (by simpa using hf)
         obtain ⟨hb, R, hR, hd⟩ := zJ2 l _ b h
         obtain ⟨t, ht, hl, hi⟩ := zPq i hk hf' R
         have hpl : i.pl = (out.length : Int) := Classical.not_not.1 hp
         refine ⟨hb, oneB i ++ R, by rw [hR]; simp, fun f acc hfu => ?_⟩
         have hlen : b.length = out.length + sz i.op + R.length := by
          rw [hR]; simp only [List.length_append]; rw [zG7 i hk]
         have hs := zR8 hk
         obtain ⟨f', rfl⟩ : ∃ f', f = f' + 1 := ⟨f - 1, by omega⟩
         have hdrop : b.drop out.length = i.op :: (t ++ R) := by
          rw [hR, List.append_assoc, List.drop_left, ht]; rfl
         unfold zJ8
         rw [hdrop]
         simp only
         rw [if_neg hk, if_neg (by omega), ← hpl, hi]
         have := hd f' (acc ++ [i]) (by rw [List.length_append, zG7 i hk]; omega)
         rw [List.length_append, zG7 i hk] at this
         rw [this]
         simp
theorem back2 (l : List IN) (b : List Int) (h : encL l [] = (b, 0)) : zPr b = (l, 0, 0) := by
 obtain ⟨hb, R, hR, hd⟩ := zJ2 l [] b h
 unfold zPr
 rw [if_neg (by omega)]
 have := hd b.length [] (by simp)
 simpa using this
theorem zJt (i : IN) (h : kd i.op ≠ 0) : zAq (oneB i) := by
 have hop := zEg h
 intro x hx
 unfold oneB at hx
 split at hx <;> simp at hx <;> omega
end Go.Proofs.YtpehimfnkmepnaaGreat
